package least_test

import (
	"testing"

	"stanza/api"
	"stanza/least"
)

// The tests of this file hold Make against a slow one of another make: it holds each state against each other one, till no more are told apart.

// slowCheck tells whether an automaton fits together.
func slowCheck(a api.Auto) bool {
	fits := len(a.Next) > 0 && len(a.Next) == len(a.Out)
	for _, ways := range a.Next {
		fits = fits && len(ways) == len(a.Next[0])
		for _, to := range ways {
			fits = fits && to >= 0 && to < len(a.Next)
		}
	}
	return fits
}

// differing tells which states are told apart by some row of classes.
func differing(a api.Auto) [][]bool {
	differ := make([][]bool, len(a.Next))
	for s := range differ {
		differ[s] = make([]bool, len(a.Next))
		for t := range differ[s] {
			differ[s][t] = a.Out[s] != a.Out[t]
		}
	}
	for more := true; more; {
		more = false
		for s := range differ {
			for t := range differ[s] {
				for c := range a.Next[s] {
					if !differ[s][t] && differ[a.Next[s][c]][a.Next[t][c]] {
						differ[s][t], more = true, true
					}
				}
			}
		}
	}
	return differ
}

func slowMake(a api.Auto) api.Auto {
	differ := differing(a)
	found := []int{0}
	var b api.Auto
	for i := 0; i < len(found); i++ {
		var ways []int
		for _, to := range a.Next[found[i]] {
			n := 0
			for n < len(found) && differ[found[n]][to] {
				n++
			}
			if n == len(found) {
				found = append(found, to)
			}
			ways = append(ways, n)
		}
		b.Next, b.Out = append(b.Next, ways), append(b.Out, a.Out[found[i]])
	}
	return b
}

// hold holds Check and Make against the slow ones, and tells the least automaton.
func hold(t *testing.T, a api.Auto) api.Auto {
	t.Helper()
	fits := slowCheck(a)
	if got := least.Check(a); got != fits {
		t.Fatalf("P5.1: %v: %v, want %v", a, got, fits)
	}
	want, wantErr := api.Auto{}, api.ErrRange
	if fits {
		want, wantErr = slowMake(a), api.OK
	}
	got, err := least.Make(a)
	if err != wantErr || show(got) != show(want) {
		t.Fatalf("P5.2: %v: error %d, %s\nwant %d, %s", a, err, show(got), wantErr, show(want))
	}
	return got
}

// holdRows holds the Out of two automata against each other, behind all rows of up to so many classes.
func holdRows(t *testing.T, a, b api.Auto, s, u, more int) {
	t.Helper()
	if a.Out[s] != b.Out[u] {
		t.Fatalf("P5.2: %s, made into %s: %d more classes ahead Out is %d, want %d", show(a), show(b), more, b.Out[u], a.Out[s])
	}
	if more > 0 {
		for c := range a.Next[s] {
			holdRows(t, a, b, a.Next[s][c], b.Next[u][c], more-1)
		}
	}
}

// holdLeast tells whether all states of an automaton are come to, and no two do the same.
func holdLeast(t *testing.T, a api.Auto) {
	t.Helper()
	highest := 0
	for s, ways := range a.Next {
		if s > highest {
			t.Fatalf("P5.2: %s: state %d is not come to by those ahead of it", show(a), s)
		}
		for _, to := range ways {
			if to > highest+1 {
				t.Fatalf("P5.2: %s: state %d is come to ahead of %d", show(a), to, highest+1)
			}
			highest = max(highest, to)
		}
	}
	for s, others := range differing(a) {
		for u, differ := range others {
			if s != u && !differ {
				t.Fatalf("P5.2: %s: states %d and %d do the same", show(a), s, u)
			}
		}
	}
}

// dice gives numbers, the same ones at each run.
type dice uint64

func (d *dice) next(n int) int {
	*d = *d*6364136223846793005 + 1442695040888963407
	return int(uint64(*d) >> 33 % uint64(n))
}

// auto makes an automaton of any ways.
func (d *dice) auto(states, classes, outs int) api.Auto {
	a := api.Auto{Next: make([][]int, states), Out: make([]uint32, states)}
	for s := range a.Next {
		a.Next[s] = make([]int, classes)
		for c := range a.Next[s] {
			a.Next[s][c] = d.next(states)
		}
		a.Out[s] = uint32(d.next(outs))
	}
	return a
}

// renumbered gives states other numbers, but for state 0.
func (d *dice) renumbered(a api.Auto) api.Auto {
	n := len(a.Next)
	number := make([]int, n)
	for s := range number {
		number[s] = s
	}
	for s := n - 1; s > 1; s-- {
		u := 1 + d.next(s)
		number[s], number[u] = number[u], number[s]
	}
	b := api.Auto{Next: make([][]int, n), Out: make([]uint32, n)}
	for s, ways := range a.Next {
		for _, to := range ways {
			b.Next[number[s]] = append(b.Next[number[s]], number[to])
		}
		b.Out[number[s]] = a.Out[s]
	}
	return b
}

// copied makes so many states of each one; a way leads to any of those that its goal became.
func (d *dice) copied(a api.Auto, times int) api.Auto {
	n := len(a.Next)
	var b api.Auto
	for range times {
		for s, ways := range a.Next {
			var now []int
			for _, to := range ways {
				now = append(now, to+n*d.next(times))
			}
			b.Next, b.Out = append(b.Next, now), append(b.Out, a.Out[s])
		}
	}
	return b
}

// P5.2: automata of any ways.
func TestAgainstSlow(t *testing.T) {
	d := dice(5)
	fewer, fewest := 0, 0
	for i := range 4000 {
		a := d.auto(1+d.next(12), d.next(4), 1+d.next(3))
		b := hold(t, a)
		holdRows(t, a, b, 0, 0, 4)
		holdLeast(t, b)
		if again := hold(t, b); show(again) != show(b) {
			t.Fatalf("P5.2: the least of a least one: %s of %s", show(again), show(b))
		}
		if len(b.Out) < len(a.Out) {
			fewer++
		} else {
			fewest++
		}
		if i%20 == 0 {
			hold(t, d.auto(60+d.next(60), 1+d.next(3), 2))
		}
	}
	if fewer < 500 || fewest < 500 {
		t.Errorf("%d automata became fewer, %d did not: too few", fewer, fewest)
	}
}

// P5.2: a least automaton is told again, whatever the numbers of its states are, and though each stands there several times.
func TestOtherNumbers(t *testing.T) {
	d := dice(7)
	for range 400 {
		want := hold(t, d.auto(1+d.next(20), 1+d.next(3), 1+d.next(3)))
		for _, a := range []api.Auto{
			d.renumbered(want), d.copied(want, 2), d.copied(want, 3), d.renumbered(d.copied(want, 4)), d.copied(d.renumbered(want), 2),
		} {
			if got := hold(t, a); show(got) != show(want) {
				t.Fatalf("P5.2: %s: %s, want %s", show(a), show(got), show(want))
			}
		}
	}
}

// counter tells 1 behind each n-th class.
func counter(n int) api.Auto {
	a := api.Auto{Next: make([][]int, n), Out: make([]uint32, n)}
	for s := range a.Next {
		a.Next[s] = []int{(s + 1) % n}
	}
	a.Out[0] = 1
	return a
}

// last tells whether the class n ahead of the last one was class 1: its states are the classes that came last, as bits.
func last(n int) api.Auto {
	var a api.Auto
	for s := range 1 << n {
		a.Next = append(a.Next, []int{s << 1 & (1<<n - 1), s<<1&(1<<n-1) | 1})
		a.Out = append(a.Out, uint32(s>>(n-1)))
	}
	return a
}

// word tells how far a row of classes is one word; what isn't leads to a state of no return.
func word(classes int, letters ...int) api.Auto {
	var a api.Auto
	no := len(letters) + 1
	for s := range no + 1 {
		ways := make([]int, classes)
		for c := range ways {
			ways[c] = no
			if s < len(letters) && letters[s] == c {
				ways[c] = s + 1
			}
		}
		a.Next, a.Out = append(a.Next, ways), append(a.Out, 0)
	}
	a.Out[len(letters)] = 1
	return a
}

// P5.2: automata whose least one is known.
func TestKnown(t *testing.T) {
	d := dice(9)
	for n := 1; n <= 8; n++ {
		for _, a := range []api.Auto{counter(n), counter(7 * n), last(n), word(3, make([]int, n)...), word(2, 1, 0, n%2)} {
			states := len(a.Out)
			holdLeast(t, hold(t, a))
			for _, b := range []api.Auto{a, d.renumbered(a), d.copied(a, 2), d.renumbered(d.copied(a, 3))} {
				if got := len(made(t, b).Out); got != states {
					t.Fatalf("P5.2: %d states of %s, want %d", got, show(a), states)
				}
			}
		}
		// A counter that tells the same at each n-th state of many is one of n states.
		long := counter(5 * n)
		for s := range long.Out {
			long.Out[s] = counter(n).Out[s%n]
		}
		if got := made(t, long); show(got) != show(counter(n)) {
			t.Errorf("P5.2: %s: %s, want %s", show(long), show(got), show(counter(n)))
		}
	}
}

// P5.1, P1: automata with a fault, or several.
func TestWild(t *testing.T) {
	d := dice(11)
	fits := 0
	for range 6000 {
		a := d.auto(1+d.next(5), d.next(4), 2)
		for range d.next(3) {
			s := d.next(len(a.Next))
			switch d.next(5) {
			case 0:
				a.Out = a.Out[:d.next(len(a.Out)+1)]
			case 1:
				a.Next[s] = append(a.Next[s], d.next(9)-4)
			case 2:
				a.Next[s] = a.Next[s][:d.next(len(a.Next[s])+1)]
			case 3:
				a.Next = a.Next[:1+d.next(len(a.Next))]
			default:
				for c := range a.Next[s] {
					a.Next[s][c] = d.next(9) - 2
				}
			}
		}
		hold(t, a)
		if least.Check(a) {
			fits++
		}
	}
	if fits < 1000 || fits > 5000 {
		t.Errorf("%d of 6000 fit: too few, or too many", fits)
	}
}

func FuzzMake(f *testing.F) {
	f.Add([]byte{3, 1, 1, 0, 2, 1, 1, 1})
	f.Add([]byte{2, 2, 1, 1, 0, 0, 1, 1, 3, 3})
	f.Fuzz(func(t *testing.T, b []byte) {
		if len(b) < 2 {
			return
		}
		states, classes := int(b[0]%40), int(b[1]%6)
		var a api.Auto
		for b = b[2:]; len(b) > classes && len(a.Next) < states; b = b[classes+1:] {
			ways := make([]int, classes)
			for c := range ways {
				ways[c] = int(int8(b[c]))
			}
			a.Next, a.Out = append(a.Next, ways), append(a.Out, uint32(b[classes]%3))
		}
		hold(t, a)
		for _, ways := range a.Next {
			for c := range ways {
				ways[c] = (ways[c] + 128) % len(a.Next)
			}
		}
		hold(t, a)
	})
}
