package proofread_test

import (
	"slices"
	"strings"

	"stockade/api"
	"stockade/code"
)

// A model of the chapter in the tests' own words: it goes all ways from each Start, with stacks as texts, and remembers which stacks each instruction was met with, however many these are; only then it asks whether that is one.

// A meeting is an instruction met with a stack.
type meeting struct {
	place int
	stack string
}

// modelRules is what each operator makes of which types.
var modelRules = map[string]string{
	"-1": "i>i f>f", "!1": "b>b", "int1": "f>i", "float1": "i>f",
	"+2": "ii>i ff>f", "-2": "ii>i ff>f", "*2": "ii>i ff>f", "/2": "ii>i ff>f", "%2": "ii>i",
	"==2": "ii>b ff>b bb>b", "!=2": "ii>b ff>b bb>b",
	"<2": "ii>b ff>b", "<=2": "ii>b ff>b", ">2": "ii>b ff>b", ">=2": "ii>b ff>b",
}

// modelOperators is the operators by their numbers.
var modelOperators = map[string][]string{
	"Unary":  {"", "-1", "!1", "int1", "float1"},
	"Binary": {"", "+2", "-2", "*2", "/2", "%2", "==2", "!=2", "<2", "<=2", ">2", ">=2"},
}

// modelEffects is what an instruction takes from the top and gives, one of several ways; nil of a Local that isn't the function's.
func modelEffects(c api.Code, f api.Entry, in api.Instr) []string {
	typ := func(list []int, n int) string {
		if n >= len(list) {
			return "?"
		}
		return lettered(list[n : n+1])
	}
	var chans []int
	for _, ch := range c.Chans {
		chans = append(chans, ch.Type)
	}
	local, place, channel := typ(f.Locals, in.A), typ(c.Places, in.A), typ(chans, in.A)
	effect := ""
	switch name := opNames[in.Op-1]; name {
	case "Int", "Get":
		effect = ">i"
	case "Float":
		effect = ">f"
	case "Bool":
		effect = ">b"
	case "Local":
		effect = ">" + local
	case "SetLocal":
		effect = local + ">"
	case "Read":
		effect = ">" + place
	case "Write":
		effect = place + ">"
	case "ReadElem":
		effect = "i>" + place
	case "WriteElem":
		effect = "i" + place + ">"
	case "Unary", "Binary":
		effect = modelRules[modelOperators[name][in.A]]
	case "JumpIf", "Short":
		effect = "b>"
	case "Send":
		effect = channel + ">"
	case "Recv":
		effect = ">" + channel
	case "Put", "Add", "Fail":
		effect = "i>"
	case "Go", "Call":
		called := c.Funcs[in.A]
		effect = lettered(called.Locals[:called.Params]) + ">"
	default:
		effect = ">"
	}
	if strings.Contains(effect, "?") {
		return nil
	}
	return strings.Fields(effect)
}

// modelNext is the meetings that come of one in a function; false, if its need doesn't hold.
func modelNext(c api.Code, f api.Entry, m meeting) ([]meeting, bool) {
	in := c.Body[m.place]
	name := opNames[in.Op-1]
	for _, effect := range modelEffects(c, f, in) {
		takes, gives, _ := strings.Cut(effect, ">")
		rest, holds := strings.CutSuffix(m.stack, takes)
		if !holds {
			continue
		}
		rest += gives
		switch name {
		case "Return":
			return nil, m.stack == ""
		case "Fail":
			return nil, true
		case "Jump":
			return []meeting{{in.A, rest}}, true
		case "JumpIf":
			return []meeting{{in.A, rest}, {m.place + 1, rest}}, true
		case "Short":
			return []meeting{{in.A, m.stack}, {m.place + 1, rest}}, true
		}
		return []meeting{{m.place + 1, rest}}, true
	}
	return nil, false
}

// modelStacks is the stack at each instruction as a text; false, if the code isn't right. Whether it is in form layer 14 says.
func modelStacks(c api.Code) ([]string, bool) {
	if code.Check(c) != nil {
		return nil, false
	}
	stacks := make([]string, len(c.Body))
	for i, f := range c.Funcs {
		end := len(c.Body)
		if i < len(c.Funcs)-1 {
			end = c.Funcs[i+1].Start
		}
		all, holds := modelMeetings(c, f, end)
		for place, list := range all {
			holds = holds && len(list) == 1
			jump := slices.Contains([]string{"Jump", "JumpIf", "Short"}, opNames[c.Body[place].Op-1])
			if to := c.Body[place].A; jump && to <= place {
				holds = holds && opNames[c.Body[to].Op-1] == "Turn"
			}
			stacks[place] = list[0]
		}
		if !holds {
			return nil, false
		}
	}
	return stacks, true
}

// modelMeetings is the stacks that a function's instructions are met with; false where a way can't be gone on. It ends there, since ways that go wrong may go on without end.
func modelMeetings(c api.Code, f api.Entry, end int) (map[int][]string, bool) {
	all := map[int][]string{f.Start: {""}}
	for queue := []meeting{{f.Start, ""}}; len(queue) > 0; queue = queue[1:] {
		next, holds := modelNext(c, f, queue[0])
		if !holds {
			return all, false
		}
		for _, m := range next {
			if m.place < f.Start || m.place >= end || len(m.stack) > 64 {
				return all, false
			}
			if !slices.Contains(all[m.place], m.stack) {
				all[m.place] = append(all[m.place], m.stack)
				queue = append(queue, m)
			}
			if len(all[m.place]) > 3 {
				return all, false
			}
		}
	}
	return all, true
}
