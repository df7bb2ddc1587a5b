package vm_test

import (
	"fmt"
	"math/rand"
	"strings"
)

// A writer writes random texts of typed programs, in which there are variables x, arrays a, channels c of each type (xi, xf, xb ..), mutexes m, n and atomics k, l.
type writer struct {
	*rand.Rand
	strings.Builder
	params [][]string // of each function the types of its parameters
	locals []string   // those that can be used, by their types' letters: i3, f0 ..
	next   int        // the number of the next local
	left   int        // how many more may be declared
}

var typeWords = map[byte]string{'i': "int", 'f': "float", 'b': "bool"}

func (w *writer) say(format string, args ...any) {
	fmt.Fprintf(w, format, args...)
}

func (w *writer) one(list ...string) string {
	return list[w.Intn(len(list))]
}

func (w *writer) letter() byte {
	return "ifb"[w.Intn(3)]
}

func randomText(r *rand.Rand) string {
	w := &writer{Rand: r}
	w.say("var xi int; var xf float; mutex m; var ai[%d] int; chan ci[%d] int; atomic k; var xb bool; var af[%d] float; ", 1+r.Intn(4), r.Intn(3), 1+r.Intn(2))
	w.say("atomic l; mutex n; var ab[%d] bool; chan cf[%d] float; chan cb[%d] bool; ", 1+r.Intn(3), r.Intn(2), r.Intn(3))
	count := 2 + r.Intn(4)
	main := r.Intn(count)
	for i := range count {
		var params []string
		for range r.Intn(4) {
			params = append(params, string(w.letter()))
		}
		if i == main {
			params = nil
		}
		w.params = append(w.params, params)
	}
	for i, params := range w.params {
		w.function(i, i == main, params)
	}
	return strings.ReplaceAll(w.String(), fmt.Sprintf("fn%d(", main), "main(")
}

func (w *writer) function(i int, main bool, params []string) {
	var list []string
	w.locals, w.next, w.left = nil, 0, 12
	for _, p := range params {
		list = append(list, w.declare(p[0])+" "+typeWords[p[0]])
	}
	w.say("func fn%d(%s) ", i, strings.Join(list, ", "))
	if main {
		w.say("{ go %s; ", w.called())
		w.stmts(2+w.Intn(6), 3)
		w.say("} ")
		return
	}
	w.block(2+w.Intn(5), 3)
}

func (w *writer) declare(letter byte) string {
	name := fmt.Sprintf("%c%d", letter, w.next)
	w.next++
	w.locals = append(w.locals, name)
	return name
}

func (w *writer) block(many, deep int) {
	usable := len(w.locals)
	w.say("{ ")
	w.stmts(many, deep)
	w.say("} ")
	w.locals = w.locals[:usable]
}

func (w *writer) stmts(many, deep int) {
	for range many {
		w.stmt(deep)
	}
}

func (w *writer) stmt(deep int) {
	t := w.letter()
	switch c := w.Intn(26); {
	case c < 4:
		w.say("%s = %s; ", w.target(t), w.expr(t, 3))
	case c < 8 && w.left > 0:
		w.left--
		e := w.expr(t, 3)
		w.say("%s := %s; ", w.declare(t), e)
	case c < 10:
		w.say("%s; ", w.called())
	case c < 11 && w.Intn(3) == 0:
		w.say("go %s; ", w.called())
	case c < 13:
		m := w.one("m", "n")
		w.say("lock %s; ", m)
		w.stmts(w.Intn(2), deep)
		if w.Intn(8) > 0 {
			w.say("unlock %s; ", m)
		}
	case c < 15:
		w.say("send c%c, %s; ", t, w.expr(t, 2))
		if w.Intn(2) == 0 {
			w.say("recv c%c, %s; ", t, w.target(t))
		}
	case c < 17 && w.Intn(2) == 0:
		w.say("recv c%c, %s; ", t, w.target(t))
	case c < 19:
		w.say("%s %s, %s; ", w.one("add", "put"), w.one("k", "l"), w.expr('i', 2))
	case c < 20:
		w.say("get %s, %s; ", w.one("k", "l"), w.target('i'))
	case c < 24 && deep > 0:
		w.control(deep - 1)
	case c < 25 && w.Intn(4) == 0:
		w.say("%s ", w.one("return;", "unlock m;"))
	case c < 25 && w.Intn(3) == 0:
		w.say("fail %s; ", w.expr('i', 2))
	default:
		w.say("%s = %s; ", w.target('i'), w.expr('i', 2))
	}
}

func (w *writer) control(deep int) {
	if w.Intn(3) == 0 {
		w.say("while %s ", w.expr('b', 2))
		w.block(1+w.Intn(3), deep)
		return
	}
	w.say("if %s ", w.expr('b', 3))
	w.block(w.Intn(3), deep)
	if w.Intn(2) == 0 {
		w.say("else ")
		w.block(w.Intn(3), deep)
	}
}

// called is a function with arguments.
func (w *writer) called() string {
	fn := w.Intn(len(w.params))
	var args []string
	for _, p := range w.params[fn] {
		args = append(args, w.expr(p[0], 2))
	}
	return fmt.Sprintf("fn%d(%s)", fn, strings.Join(args, ", "))
}

func (w *writer) target(t byte) string {
	if name := w.local(t); name != "" && w.Intn(3) == 0 {
		return name
	}
	if w.Intn(2) == 0 {
		return fmt.Sprintf("x%c", t)
	}
	return fmt.Sprintf("a%c[%s]", t, w.index())
}

// local is one of those that can be used; "" if there is none.
func (w *writer) local(t byte) string {
	var list []string
	for _, name := range w.locals {
		if name[0] == t {
			list = append(list, name)
		}
	}
	if list == nil {
		return ""
	}
	return w.one(list...)
}

func (w *writer) index() string {
	switch w.Intn(12) {
	case 0:
		return w.expr('i', 1)
	case 1, 2:
		return w.one("1", "xi", "2 - 1", "-1")
	}
	return w.one("0", "0 * "+w.expr('i', 0), "xi % 1")
}

func (w *writer) expr(t byte, deep int) string {
	if deep == 0 || w.Intn(4) == 0 {
		return w.plain(t)
	}
	e := func(t byte) string { return w.expr(t, deep-1) }
	two := func(t byte, ops ...string) string {
		return "(" + e(t) + " " + w.one(ops...) + " " + e(t) + ")"
	}
	switch {
	case t == 'i' && w.Intn(12) == 0:
		return "int(" + e('f') + ")"
	case t == 'i' && w.Intn(8) == 0:
		return "-" + w.plain('i')
	case t == 'i' && w.Intn(8) == 0:
		return "(" + e('i') + w.one(" / ", " % ") + w.one("2", "3", e('i')) + ")"
	case t == 'i':
		return two('i', "+", "-", "*")
	case t == 'f' && w.Intn(3) == 0:
		return w.one("-"+w.plain('f'), "float("+e('i')+")")
	case t == 'f':
		return two('f', "+", "-", "*", "/")
	}
	switch w.Intn(7) {
	case 0:
		return "!" + w.plain('b')
	case 1:
		return two('b', "==", "!=")
	case 2:
		return two('f', "<", "<=", ">", ">=", "==", "!=")
	case 3, 4:
		return two('b', "&&", "||")
	}
	return two('i', "<", "<=", ">", ">=", "==", "!=")
}

func (w *writer) plain(t byte) string {
	name := w.local(t)
	switch c := w.Intn(6); {
	case c < 2 && name != "":
		return name
	case c < 4:
		return fmt.Sprintf("x%c", t)
	case c < 5:
		return fmt.Sprintf("a%c[%s]", t, w.one("0", "0", "0", "1"))
	}
	switch t {
	case 'i':
		return w.one("0", "1", "2", "7", "9223372036854775807")
	case 'f':
		return w.one("#0000000000000000", "#3ff0000000000000", "#c008000000000000", "#7ff8000000000001", "#7ff0000000000001", "#43e0000000000000")
	}
	return w.one("true", "false")
}
