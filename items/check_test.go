package items_test

import (
	"math"
	"slices"
	"strings"
	"testing"

	"stanza/api"
	"stanza/items"
)

// row is clusters of these lengths, one behind the other, of a cell each, with Keep at all boundaries but the last.
func row(lengths ...int) api.Para {
	p := api.Para{Opps: only(len(lengths)+1, api.Keep, api.Must, len(lengths))}
	at := 0
	for _, n := range lengths {
		p.Clusters = append(p.Clusters, api.Cluster{At: at, Len: n, Cells: 1})
		at += n
	}
	return p
}

// copied shares no memory with a text.
func copied(p api.Para) api.Para {
	return api.Para{Clusters: slices.Clone(p.Clusters), Opps: slices.Clone(p.Opps)}
}

// with is a text with one cluster changed.
func with(p api.Para, place int, change func(c *api.Cluster)) api.Para {
	p = copied(p)
	change(&p.Clusters[place])
	return p
}

// withOpp is a text with something else at a boundary.
func withOpp(p api.Para, place int, o api.Opp) api.Para {
	p = copied(p)
	p.Opps[place] = o
	return p
}

// checks holds Check against what is wanted.
func checks(t *testing.T, what string, p api.Para, want bool) {
	t.Helper()
	if items.Check(p) != want {
		t.Errorf("P11.2: %s: Check is %v: %v", what, !want, p)
	}
}

// P11.2: texts that are right.
func TestCheckRight(t *testing.T) {
	checks(t, "no clusters", api.Para{Opps: []api.Opp{api.Must}}, true)
	checks(t, "no clusters, a list", api.Para{Clusters: []api.Cluster{}, Opps: []api.Opp{api.Must}}, true)
	checks(t, "one", row(1), true)
	checks(t, "several", row(1, 2, 3, 1), true)
	checks(t, "all that may be done", api.Para{Clusters: row(1, 1, 1, 1, 1).Clusters, Opps: []api.Opp{0, 1, 2, 3, 0, 2}}, true)
}

// P11.2: one more Opps than clusters.
func TestCheckHowManyOpps(t *testing.T) {
	for n := range 6 {
		p := row(all(n, 1)...)
		for m := range 10 {
			for _, rest := range []api.Opp{api.Keep, api.May, api.Must, api.Hyphen} {
				opps := all(m, rest)
				if m > 0 {
					opps[0], opps[m-1] = api.Keep, api.Must
				}
				if n < m {
					opps[n] = api.Must
				}
				checks(t, "so many Opps", api.Para{Clusters: p.Clusters, Opps: opps}, m == n+1)
			}
		}
		checks(t, "no Opps", api.Para{Clusters: p.Clusters}, false)
		checks(t, "a list of no Opps", api.Para{Clusters: p.Clusters, Opps: []api.Opp{}}, false)
		checks(t, "as many Opps", api.Para{Clusters: p.Clusters, Opps: p.Opps[1:]}, false)
		checks(t, "two more Opps", api.Para{Clusters: p.Clusters, Opps: append(slices.Clone(p.Opps), api.Must)}, false)
	}
}

// P11.2: the last one is Must, the first one Keep if there are clusters, each of the others at most Hyphen.
func TestCheckEachOpp(t *testing.T) {
	for n := range 256 {
		o := api.Opp(n)
		checks(t, "of no clusters", api.Para{Opps: []api.Opp{o}}, o == api.Must)
		for clusters := 1; clusters < 6; clusters++ {
			p := row(all(clusters, 1)...)
			checks(t, "at 0", withOpp(p, 0, o), o == api.Keep)
			checks(t, "at the end", withOpp(p, clusters, o), o == api.Must)
			for i := 1; i < clusters; i++ {
				checks(t, "between", withOpp(p, i, o), o == api.Keep || o == api.May || o == api.Must || o == api.Hyphen)
			}
		}
	}
}

// P11.2: At is where the one ahead ends; the first one's is 0.
func TestCheckAt(t *testing.T) {
	p := row(1, 2, 3, 1)
	for i, c := range p.Clusters {
		for _, at := range []int{-4096, -1, 0, 1, 2, 3, 4, 5, 6, 7, 8, 4095, 4096, math.MaxInt, math.MinInt} {
			checks(t, "At", with(p, i, func(c *api.Cluster) { c.At = at }), at == c.At)
		}
	}
	for _, n := range []int{-1, 1, 100} {
		moved := copied(p)
		for i := range moved.Clusters {
			moved.Clusters[i].At += n
		}
		checks(t, "all moved", moved, false)
	}
	turned := copied(p)
	slices.Reverse(turned.Clusters)
	checks(t, "turned", turned, false)
}

// P11.2: Len is 1 at least, with what follows where it ends.
func TestCheckLeastLen(t *testing.T) {
	for _, n := range []int{-4096, -2, -1, 0, math.MinInt, math.MinInt + 1} {
		checks(t, "one", row(n), false)
		checks(t, "the first one", row(n, 1, 1), false)
		checks(t, "the middle one", row(1, n, 1), false)
		checks(t, "the last one", row(1, 1, n), false)
		checks(t, "all", row(n, n, n), false)
	}
	checks(t, "bytes that go back", row(5, -3, 5), false)
	checks(t, "nothing in all", row(5, -5), false)
}

// P11.2: all together are at most 4096 bytes.
func TestCheckMostBytes(t *testing.T) {
	for _, lengths := range [][]int{{4096}, {1, 4095}, {4095, 1}, {2048, 2048}, {4000, 90, 6}, all(4096, 1), all(1024, 4), all(4095, 1)} {
		checks(t, "4096 bytes or one less", row(lengths...), true)
	}
	for _, lengths := range [][]int{{4097}, {1, 4096}, {4096, 1}, {2048, 2049}, {2049, 2048}, {4000, 90, 7}, all(4097, 1), {4096, 4096}, {5000, 1}, {1, 5000}} {
		checks(t, "4097 bytes or more", row(lengths...), false)
	}
}

// P11.2: lengths whose sum is beyond an int are beyond 4096 too.
func TestCheckSumBeyondInt(t *testing.T) {
	const most = math.MaxInt
	for _, lengths := range [][]int{
		{most}, {most, 1}, {1, most}, {most, most}, {most, most, 2}, {most, most, 3}, {1, most, most}, {1, most, most, 1}, {1, most, most, 2},
		{1 << 62, 1 << 62}, {1 << 62, 1 << 62, 1 << 62, 1 << 62}, {1 << 62, 1 << 62, 1 << 62, 1 << 62, 5}, {4096, most}, {4096, most, most}, {1, most - 1}, {4096, most - 4096, 1},
	} {
		checks(t, "beyond an int", row(lengths...), false)
	}
}

// P11.2: Cells are from 0 to 2, whatever the kind is.
func TestCheckCells(t *testing.T) {
	p := row(1, 2, 1)
	for i := range p.Clusters {
		for kind := range api.Kind(3) {
			for _, n := range []int{-1, 0, 1, 2, 3, 4, 255, 256, 257, 1 << 32, -1 << 32, math.MaxInt, math.MinInt} {
				changed := with(p, i, func(c *api.Cluster) { c.Cells, c.Kind = n, kind })
				checks(t, "Cells", changed, n >= 0 && n <= 2)
			}
		}
	}
}

// P11.2: Kind is one of the three.
func TestCheckKind(t *testing.T) {
	p := row(1, 2, 1)
	for i := range p.Clusters {
		for n := range 256 {
			kind := api.Kind(n)
			changed := with(p, i, func(c *api.Cluster) { c.Kind = kind })
			checks(t, "Kind", changed, kind == api.Plain || kind == api.Space || kind == api.Tab)
		}
	}
}

// P11.2: what is wrong at the last cluster, or at the last boundary but one, is found in a long text too.
func TestCheckFarBehind(t *testing.T) {
	p := row(all(4096, 1)...)
	checks(t, "right", p, true)
	checks(t, "At", with(p, 4095, func(c *api.Cluster) { c.At++ }), false)
	checks(t, "Len", with(p, 4095, func(c *api.Cluster) { c.Len++ }), false)
	checks(t, "no Len", with(p, 4095, func(c *api.Cluster) { c.Len = 0 }), false)
	checks(t, "Cells", with(p, 4095, func(c *api.Cluster) { c.Cells = 3 }), false)
	checks(t, "Kind", with(p, 4095, func(c *api.Cluster) { c.Kind = 3 }), false)
	checks(t, "Opps", withOpp(p, 4095, api.Cut), false)
}

// P11.2: what Make answers of a text is right, but for breaks that may not be, and for more bytes than may be.
func TestCheckMade(t *testing.T) {
	x := terminal(t)
	for _, text := range []string{"", "a", " \t", "a\u0301 \t一\xff", "aé一😀\xff\xf0\x9f\x98b", strings.Repeat("a", 4096), strings.Repeat("é", 2048), strings.Repeat("\xff", 4096)} {
		l := signs(text)
		for _, marks := range [][]api.Opp{nil, all(len(l), api.May), only(len(l)+1, api.Keep, api.Must, len(l))} {
			for _, o := range []api.Opp{api.Keep, api.May, api.Must, api.Hyphen, api.Cut, 77} {
				made := items.Make(l, marks, all(len(l)+1, o), all(len(l)+1, true), x)
				within := len(made.Clusters) > 1
				checks(t, "made", made, o <= api.Hyphen || !within)
				if items.Bytes(made) != len(text) {
					t.Errorf("P11.2: Bytes %d, want %d", items.Bytes(made), len(text))
				}
			}
		}
	}
	for _, text := range []string{strings.Repeat("a", 4097), strings.Repeat("é", 2048) + "a"} {
		l := signs(text)
		checks(t, "made, 4097 bytes", items.Make(l, all(len(l), api.May), nil, nil, x), false)
		checks(t, "made, one cluster of 4097 bytes", items.Make(l, nil, nil, nil, x), false)
	}
	wide := table(t, api.Range{Lo: 0, Hi: top, To: 255})
	checks(t, "made by a table of great numbers", items.Make(signs("a b"), all(4, api.May), nil, nil, wide), true)
}

// parts holds Parts of what may be done at boundaries, with as many clusters as that has.
func parts(t *testing.T, opps []api.Opp, want ...int) {
	t.Helper()
	p := api.Para{Opps: opps}
	if len(opps) > 0 {
		p.Clusters = row(all(len(opps)-1, 1)...).Clusters
	}
	if got := items.Parts(p); !slices.Equal(got, want) {
		t.Errorf("P11.2: Parts of %v: %v, want %v", opps, got, want)
	}
}

// P11.2: Parts tells the boundaries with Must, rising.
func TestParts(t *testing.T) {
	parts(t, nil)
	parts(t, []api.Opp{})
	parts(t, []api.Opp{api.Keep})
	parts(t, []api.Opp{api.Keep, api.May, api.Hyphen, api.Cut, 5, 255})
	parts(t, []api.Opp{api.Must}, 0)
	parts(t, []api.Opp{api.Keep, api.Must}, 1)
	parts(t, []api.Opp{api.Must, api.Keep}, 0)
	parts(t, []api.Opp{api.Must, api.Must}, 0, 1)
	parts(t, []api.Opp{api.Keep, api.May, api.Must, api.Hyphen, api.Must, api.Must, api.Keep, api.Must}, 2, 4, 5, 7)
	parts(t, []api.Opp{api.Must, api.Keep, api.Keep, api.Must, api.Keep}, 0, 3)
	parts(t, all(6, api.Must), 0, 1, 2, 3, 4, 5)
}

// P11.2: all short rows of what may be done.
func TestPartsOfAllShort(t *testing.T) {
	for n := range 7 {
		for bits := range 1 << n {
			opps := all(n, api.Hyphen)
			var want []int
			for i := range opps {
				if bits>>i&1 == 1 {
					opps[i] = api.Must
					want = append(want, i)
				}
			}
			parts(t, opps, want...)
		}
	}
}

// P11.2: Bytes is the sum of all Len.
func TestBytes(t *testing.T) {
	for want, lengths := range map[int][]int{0: nil, 1: {1}, 3: {1, 2}, 10: {1, 2, 3, 4}, 7: {4, 3}, 4096: all(1024, 4), 4097: all(4097, 1), 1 << 40: {1 << 39, 1 << 39}} {
		if got := items.Bytes(row(lengths...)); got != want {
			t.Errorf("P11.2: Bytes %d, want %d", got, want)
		}
	}
	if got := items.Bytes(api.Para{}); got != 0 {
		t.Errorf("P11.2: Bytes of nothing: %d", got)
	}
	// Neither places nor what may be done is asked.
	p := with(row(2, 3), 1, func(c *api.Cluster) { c.At, c.Cells, c.Kind = 900, 9, 9 })
	p.Opps = nil
	if got := items.Bytes(p); got != 5 {
		t.Errorf("P11.2: Bytes %d, want 5", got)
	}
}

// P1: sums beyond an int end like others.
func TestBytesBeyondInt(t *testing.T) {
	for _, n := range []int{math.MaxInt, math.MinInt} {
		items.Bytes(row(n, n, n))
	}
}
