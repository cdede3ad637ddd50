package least_test

import (
	"strconv"
	"strings"
	"testing"

	"stanza/api"
	"stanza/least"
)

// read makes an automaton of a text: of each state its ways, > and its Out.
func read(text string) api.Auto {
	var a api.Auto
	for _, state := range strings.Fields(text) {
		to, out, _ := strings.Cut(state, ">")
		ways := []int{}
		for _, way := range strings.FieldsFunc(to, func(r rune) bool { return r == ',' }) {
			n, _ := strconv.Atoi(way)
			ways = append(ways, n)
		}
		n, _ := strconv.ParseUint(out, 10, 32)
		a.Next, a.Out = append(a.Next, ways), append(a.Out, uint32(n))
	}
	return a
}

// show tells an automaton as the text that read makes it of.
func show(a api.Auto) string {
	if len(a.Next) != len(a.Out) {
		return strconv.Itoa(len(a.Next)) + " states, but " + strconv.Itoa(len(a.Out)) + " Out"
	}
	var states []string
	for i, ways := range a.Next {
		var to []string
		for _, n := range ways {
			to = append(to, strconv.Itoa(n))
		}
		states = append(states, strings.Join(to, ",")+">"+strconv.FormatUint(uint64(a.Out[i]), 10))
	}
	return strings.Join(states, " ")
}

func made(t *testing.T, a api.Auto) api.Auto {
	t.Helper()
	if !least.Check(a) {
		t.Fatalf("P5.1: %s: refused", show(a))
	}
	b, e := least.Make(a)
	if e != api.OK {
		t.Fatalf("P5.2: %s: error %d", show(a), e)
	}
	return b
}

func makes(t *testing.T, from, want string) {
	t.Helper()
	if got := show(made(t, read(from))); got != want {
		t.Errorf("P5.2: %s: %s, want %s", from, got, want)
	}
}

// P5.2: the chapter's example.
func TestExample(t *testing.T) {
	makes(t, "1>0 2>1 1>1", "1>0 1>1")
}

// P5.2: one state.
func TestOneState(t *testing.T) {
	makes(t, "0>0", "0>0")
	makes(t, "0>7", "0>7")
	makes(t, "0,0,0>4294967295", "0,0,0>4294967295")
	makes(t, ">3", ">3")
}

// P5.2: states that do the same are one.
func TestSame(t *testing.T) {
	makes(t, "1>5 2>5 0>5", "0>5")
	makes(t, "1,2>0 0,1>0 2,2>0", "0,0>0")
	makes(t, "1,2>0 1,1>1 2,2>1", "1,1>0 1,1>1")
	makes(t, "1,2>0 3,3>1 4,4>1 3,3>2 4,4>2", "1,1>0 2,2>1 2,2>2")
	// They do, though they lead to each other.
	makes(t, "1>0 2>1 3>0 0>1", "1>0 0>1")
	makes(t, "1,4>0 2,5>0 0,3>0 4,1>1 5,2>1 3,0>1", "0,1>0 1,0>1")
	makes(t, "1>0 2>65536 3>0 4>65536 5>0 0>65536", "1>0 0>65536")
	makes(t, "1>1 2>2147483649 3>1 4>2147483649 5>1 0>2147483649", "1>1 0>2147483649")
	// State 0 is like one that is come to later.
	makes(t, "1>0 2>1 1>0", "1>0 0>1")
	makes(t, "1,0>0 2,0>0 2,3>1 1,0>0", "1,0>0 2,0>0 2,0>1")
}

// P5.2: states that are told apart by their Out, or only behind some classes, stay apart.
func TestApart(t *testing.T) {
	for _, same := range []string{
		"1>0 0>1",
		"1>0 2>0 3>0 3>1",
		"1>0 2>0 3>0 4>0 0>1",
		"1>1 2>1 3>1 3>0",
		"1,2>0 1,2>1 1,2>2",
		"1,0>0 1,2>0 1,0>1",
		"1,2>0 3,0>0 0,3>0 3,3>1",          // 1 and 2 are told apart by the class alone
		"1,2>0 3,3>0 3,4>0 3,3>1 4,4>0",    // and these by the second class alone
		"1,2,0>0 0,1,2>0 2,0,1>4294967295", // Out is a whole number of 32 bits
		"1>1 1>2147483649",
		"1>0 1>2147483648",
		"1>65536 1>0",
	} {
		makes(t, same, same)
	}
}

// P5.2: states that are never come to are left out, whatever they lead to.
func TestNeverComeTo(t *testing.T) {
	makes(t, "0>0 0>1", "0>0")
	makes(t, "0>0 1>1 2>2 1>3", "0>0")
	makes(t, "2>0 0>9 0>1", "1>0 0>1")
	makes(t, "3,3>0 0,1>1 2,0>0 0,3>1 4,4>7 4,1>1", "1,1>0 0,1>1")
	makes(t, ">3 >4 >3", ">3")
	// What is alike only to such a one stays.
	makes(t, "2>0 2>1 0>1", "1>0 0>1")
}

// P5.2: numbers, as states are come to: state 0, then, state by state, by the classes.
func TestNumbers(t *testing.T) {
	makes(t, "3,1,2>0 1,1,1>1 2,2,2>2 3,3,3>3", "1,2,3>0 1,1,1>3 2,2,2>1 3,3,3>2")
	makes(t, "2,4>0 1,1>1 3,1>2 3,3>3 0,5>4 5,5>5", "1,2>0 3,4>2 0,5>4 3,3>3 4,4>1 5,5>5")
	makes(t, "2>0 0>3 3>1 1>2", "1>0 2>1 3>2 0>3")
	// State 0 has the number 0, though its like has a greater one, and its Out is not the least.
	makes(t, "3>9 2>0 1>0 0>5", "1>9 0>5")
	// The first one of several that are alike has the number.
	makes(t, "4,2,1>0 3,3,3>1 3,3,3>2 3,3,3>0 3,3,3>1", "1,2,1>0 3,3,3>1 3,3,3>2 3,3,3>0")
}
