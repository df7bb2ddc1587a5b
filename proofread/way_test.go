package proofread_test

import (
	"strconv"
	"strings"
	"testing"

	"stockade/api"
	"stockade/code"
)

// The tests of P16.1 on the ways through a function: joins, rounds, ends, and what can't be come to.

func TestChapterExamples(t *testing.T) {
	checkWrong(t, one("Int 1, Return"))
	checkRight(t, one("Turn, Jump 0"), []string{"", ""})
	checkWrong(t, one("Jump 0"))
}

// TestJoinsWithTheSameStack: instructions that are come to by two ways or more.
func TestJoinsWithTheSameStack(t *testing.T) {
	for _, listing := range []string{
		"Bool 1 [], JumpIf 4 0 [b], Int 1 [], Jump 5 [i], Int 2 [], SetLocal 0 [i], Return []",
		"Float 1 [], Bool 1 [f], JumpIf 5 1 [fb], Float 2 [f], Jump 6 [ff], Float 3 [f], Binary 1 [ff], SetLocal 1 [f], Return []",
		"Bool 1 [], JumpIf 3 0 [b], Turn [], Return []",
		"Bool 1 [], JumpIf 2 0 [b], Return []", // both ways go to the one behind
		"Jump 1 [], Return []",
		"Int 1 [], Jump 2 [i], Fail [i]",
		// Three ways, one of them by falling through.
		"Bool 1 [], JumpIf 4 1 [b], Bool 1 [], JumpIf 4 1 [b], Return []",
		// One way comes with a TInt of Get, the other one with that of a place, a third one with that of a channel.
		"Bool 0 [], JumpIf 4 0 [b], Get 0 [], Jump 9 [i], Bool 1 [], JumpIf 8 1 [b], Recv 0 [], Jump 9 [i], Read 1 [], Put 1 [i], Return []",
		// What was pushed ahead stays beneath.
		"Int 1 [], Float 1 [i], Bool 1 [if], JumpIf 5 1 [ifb], Turn [if], SetLocal 1 [if], SetLocal 0 [i], Return []",
	} {
		right(t, listing)
	}
}

func TestJoinsWithDifferentStacks(t *testing.T) {
	for _, listing := range []string{
		"Bool 1, JumpIf 4 0, Int 1, Jump 5, Float 2, SetLocal 0, Return",
		"Bool 1, JumpIf 4 0, Float 1, Jump 5, Int 2, SetLocal 0, Return",
		"Bool 1, JumpIf 3 0, Int 1, Turn, Fail",         // one type on one way, none on the other
		"Int 1, Bool 1, JumpIf 4 0, Int 1, Fail",        // longer on one way, though each one is enough
		"Int 1, Bool 1, JumpIf 4 0, SetLocal 0, Return", // shorter on one way
		"Int 1, Bool 1, JumpIf 4 0, SetLocal 0, Turn, Fail, Return",
		"Int 1, Float 1, Bool 1, JumpIf 8 0, SetLocal 1, SetLocal 0, Float 1, Int 1, Turn, Int 2, Fail", // the same types in another order
		"Float 1, Int 1, Bool 1, JumpIf 7 0, Binary 5, Int 1, Turn, Fail",
		"Bool 1, Int 1, Bool 1, JumpIf 8 0, SetLocal 0, SetLocal 2, Float 1, Int 1, Fail", // different beneath the top alone, which Fail doesn't ask
	} {
		wrong(t, listing)
	}
}

// TestShort: what && and || make, and Shorts otherwise.
func TestShort(t *testing.T) {
	for _, listing := range []string{
		"Bool 1 [], Short 3 0 [b], Bool 0 [], SetLocal 2 [b], Return []",
		"Bool 1 [], Short 3 1 [b], Read 5 [], JumpIf 4 0 [b], Return []",
		"Local 2 [], Short 5 0 [b], Local 2 [], Short 5 1 [b], Bool 1 [], Unary 2 [b], SetLocal 2 [b], Return []",
		"Int 1 [], Local 2 [i], Short 5 0 [ib], Unary 1 [i], Bool 1 [i], JumpIf 6 0 [ib], Fail [i]",
		// The way by A ends elsewhere than the other one.
		"Bool 1 [], Short 3 0 [b], Return [], SetLocal 2 [b], Return []",
		// A Short's A is another Short.
		"Bool 1 [], Short 3 0 [b], Bool 0 [], Short 5 1 [b], Bool 0 [], SetLocal 2 [b], Return []",
	} {
		right(t, listing)
	}
	for _, listing := range []string{
		"Bool 1, Short 2 0, Return",                     // the one behind with two stacks
		"Bool 1, Short 2 0, SetLocal 2, Return",         // on one way it isn't there any more
		"Bool 1, Bool 1, Short 3 0, SetLocal 2, Return", // on one way there is one too many
		"Bool 1, Short 3 0, Int 0, SetLocal 2, Return",  // an int on one way
		"Bool 1, Short 4 0, Bool 0, Bool 1, SetLocal 2, Return",
		"Bool 1, Short 3 0, Turn, Return", // the bool of the way by A stays
		"Int 1, Short 3 0, Bool 0, SetLocal 2, Return",
		"Bool 1, Int 1, Short 4 0, Int 0, SetLocal 0, SetLocal 2, Return", // the bool isn't at the top
	} {
		wrong(t, listing)
	}
}

// TestRounds: back to a Turn all jumps may go.
func TestRounds(t *testing.T) {
	for _, listing := range []string{
		"Turn [], Jump 0 []",
		"Turn [], Bool 1 [], JumpIf 0 0 [b], Return []",
		"Turn [], Bool 1 [], JumpIf 4 0 [b], Jump 0 [], Return []",
		"Int 1 [], Turn [i], Bool 1 [i], JumpIf 1 1 [ib], Fail [i]",
		"Int 1 [], Turn [i], Int 2 [i], Binary 1 [ii], Jump 1 [i]",
		// Rounds in one another, and one behind the other.
		"Turn [], Turn [], Bool 1 [], JumpIf 5 0 [b], Jump 1 [], Bool 1 [], JumpIf 8 0 [b], Jump 0 [], Turn [], Jump 8 []",
		// A Short back: the Turn is come to with the bool on the stack.
		"Bool 1 [], Turn [b], Unary 2 [b], Short 1 0 [b], Return []",
		// A Turn that is come to from behind it alone.
		"Jump 3 [], Turn [], Return [], Turn [], Jump 1 []",
		"Jump 4 [], Turn [], Bool 1 [], JumpIf 5 0 [b], Jump 1 [], Return []",
		// Two ways back to one Turn.
		"Turn [], Bool 1 [], JumpIf 0 0 [b], Bool 1 [], JumpIf 0 1 [b], Jump 0 []",
		// Forwards to a Turn, and over one.
		"Jump 2 [], Turn [], Turn [], Return []",
	} {
		right(t, listing)
	}
}

// TestWrongRounds: back to anything else they may not, nor with another stack.
func TestWrongRounds(t *testing.T) {
	for _, listing := range []string{
		"Jump 0, Return",
		"Turn, Jump 1",
		"Lock 0, Jump 0",
		"Turn, Lock 0, Unlock 0, Jump 1",
		"Turn, Turn, Lock 0, Jump 2",
		"Int 1, Turn, Jump 0",
		"Bool 1, JumpIf 0 0, Return",
		"Bool 1, JumpIf 1 0, Return", // to its own place
		"Turn, Bool 1, JumpIf 1 1, Return",
		"Turn, Bool 1, JumpIf 2 1, Return",
		"Bool 1, Unary 2, Short 1 0, Return",
		"Bool 1, Short 1 0, Return",
		"Turn, Bool 1, Short 1 1, Return",
		"Jump 2, Return, Jump 1",      // back to a Return
		"Jump 3, Int 1, Fail, Jump 1", // back to an Int
		"Jump 3, Jump 4, Return, Jump 1, Return",
		"Turn, Int 1, Jump 0", // longer each time
		"Turn, Int 1, Bool 1, JumpIf 0 1, Fail",
		"Int 1, Turn, SetLocal 0, Jump 1", // shorter
		"Int 1, Turn, Unary 4, Jump 1",    // of another type
		"Turn, Bool 1, Short 0 0, Return", // its bool stays, and wasn't there at first
		"Bool 1, Turn, JumpIf 1 0, Return",
	} {
		wrong(t, listing)
	}
}

// TestBackFromWhereNothingComes: a jump that can't be come to may go back to anything.
func TestBackFromWhereNothingComes(t *testing.T) {
	for _, listing := range []string{
		"Return [], Jump 0 []",
		"Return [], Jump 1 []",
		"Return [], JumpIf 1 0 []",
		"Return [], JumpIf 0 1 []",
		"Return [], Short 0 0 []",
		"Return [], Short 1 1 []",
		"Lock 0 [], Return [], Jump 0 []",
		"Jump 2 [], Jump 0 [], Return []",
		"Bool 1 [], JumpIf 4 0 [b], Return [], Jump 2 [], Return []",
		"Return [], Lock 0 [], Jump 1 []", // a round without a Turn
	} {
		right(t, listing)
	}
}

// TestOutOfTheFunction: what is next has to be in it, be the other function's stack the same or not.
func TestOutOfTheFunction(t *testing.T) {
	for _, listing := range []string{
		"Turn", "Lock 1", "Int 1", "Bool 1, SetLocal 2", "Int 1, Put 0", "Call 1", "Go 1", "Get 0", "Recv 1", "Read 3",
		"Turn, Bool 1, JumpIf 0 0", "Turn, Bool 1, JumpIf 0 1", "Bool 1, Turn, Short 1 0",
		"Bool 1, JumpIf 3 0, Return, Unlock 0",
	} {
		wrong(t, listing) // behind main other functions stand, or nothing
	}
	for _, listing := range []string{
		"Jump %, Return", "Turn, Jump %",
		"Bool 1, JumpIf % 0, Return", "Bool 1, JumpIf % 1, Return",
		"Bool 1, Short % 0, Return", "Bool 1, Short % 1, Return",
	} {
		for _, ahead := range aheads {
			jumpsOut(t, listing, ahead)
		}
	}
}

// replaced is a listing with a number in it.
func replaced(listing string, n int) string {
	return strings.ReplaceAll(listing, "%", strconv.Itoa(n))
}

// jumpsOut sets the % of a listing to each instruction that isn't main's.
func jumpsOut(t *testing.T, listing string, ahead int) {
	t.Helper()
	body, _ := listed(replaced(listing, 0))
	c := around(body, ahead)
	start, end := 2*ahead, 2*ahead+len(body)
	for to := range c.Body {
		if to >= start && to < end {
			continue
		}
		list, _ := listed(replaced(listing, to-start))
		c := around(list, ahead)
		if err := code.Check(c); err != nil {
			t.Errorf("%s isn't in form", told(c))
		}
		checkWrong(t, c)
	}
	for _, to := range []int{-1, len(c.Body), len(c.Body) + 1} { // not in form
		list, _ := listed(replaced(listing, to-start))
		checkWrong(t, around(list, ahead))
	}
}

// TestOutFromWhereNothingComes: of an instruction that can't be come to nothing is next.
func TestOutFromWhereNothingComes(t *testing.T) {
	for _, listing := range []string{
		"Return [], Turn []", "Return [], Int 1 []", "Int 1 [], Fail [i], Recv 2 []", "Turn [], Jump 0 [], Lock 1 []",
		"Return [], JumpIf 0 0 []", "Return [], JumpIf 1 1 []", "Return [], Short 0 0 []",
	} {
		right(t, listing)
	}
	for _, op := range []string{"Jump %", "JumpIf % 0", "Short % 1"} {
		for _, ahead := range aheads {
			for to := range 14 {
				body, _ := listed("Return, " + replaced(op, to-2*ahead))
				c := around(body, ahead)
				checkRight(t, c, make([]string, len(c.Body)))
			}
		}
	}
}

// TestWrongWhereNothingComes: instructions that can't be come to may be wrong in any way, as long as they are in form; their stacks are empty.
func TestWrongWhereNothingComes(t *testing.T) {
	for _, n := range needs {
		right(t, "Return [], "+n.instr+" []")
		right(t, "Return [], "+n.instr+" [], Return []")
		right(t, "Int 1 [], Jump 3 [i], "+n.instr+" [], Fail [i]")
		right(t, "Int 1 [], Bool 1 [i], Jump 5 [ib], "+n.instr+" [], "+n.instr+" [], SetLocal 2 [ib], Fail [i]")
	}
	for _, text := range []string{"Local 3", "SetLocal 31", "Fail", "Return", "Int 1, Return", "Float 1, Fail", "Binary 1, Return", "Unary 2, Return"} {
		body, _ := listed("Return, " + text)
		c := around(body, 3)
		checkRight(t, c, make([]string, len(c.Body)))
	}
	for _, in := range []api.Instr{{Op: 27}, {}, {Op: 11, A: 12}, {Op: 10}, {Op: 4, A: 32}, {Op: 3, A: 2}, {Op: 6, A: 6}, {Op: 1, B: 1}, {Op: 25, At: -1}, {Op: 12, A: 2}} {
		checkWrong(t, with(one("Return, Return"), func(c *api.Code) { c.Body[1] = in }))
	}
}

// TestAllWaysAreAsked: an instruction is wrong by the way that is gone last, too.
func TestAllWaysAreAsked(t *testing.T) {
	for _, listing := range []string{
		"Bool 1, JumpIf 3 0, Return, Binary 1, Return",
		"Bool 1, JumpIf 3 0, Binary 1, Return",
		"Bool 1, JumpIf 4 0, Int 1, Fail, Int 1, Return",
		"Bool 1, JumpIf 4 0, Int 1, Return, Int 1, Fail",
		"Bool 1, Short 3 0, Return, Return",
		"Bool 1, Short 3 0, Unary 1, SetLocal 2, Return",
		"Turn, Bool 1, JumpIf 4 0, Jump 0, Local 3, Fail",
		"Jump 3, Turn, Unary 1, Turn, Jump 1",
	} {
		wrong(t, listing)
	}
}
