package trie

// end stands ahead of a word and behind it, and in patterns for these two.
const end = '.'

// node is a beginning of patterns' letters.
type node struct {
	// next tells by the letter that comes next which node that leads to.
	next map[int32]int
	// values are the greatest ones of all patterns that have just these letters.
	values []uint8
}

// raise takes a pattern's values in. They are the caller's, so none of their memory is kept.
func (n *node) raise(values []uint8) {
	if lack := len(values) - len(n.values); lack > 0 {
		n.values = append(n.values, make([]uint8, lack)...)
	}
	raise(n.values, values)
}

// grow finds the node of these letters, and makes those on the way that lack.
func (t *Trie) grow(letters []int32) int {
	at := 0
	for _, letter := range letters {
		to, ok := t.nodes[at].next[letter]
		if !ok {
			to = len(t.nodes)
			t.nodes[at].put(letter, to)
			t.nodes = append(t.nodes, node{})
		}
		at = to
	}
	return at
}

// put says where a letter leads to. Most patterns' last nodes lead nowhere, so the map is made only here.
func (n *node) put(letter int32, to int) {
	if n.next == nil {
		n.next = map[int32]int{}
	}
	n.next[letter] = to
}

// lay raises places by all patterns that stand at the row's beginning.
func (t *Trie) lay(places []uint8, row []int32) {
	if t.Size() == 0 {
		return
	}
	at := 0
	raise(places, t.nodes[at].values)
	for _, letter := range row {
		to, ok := t.nodes[at].next[letter]
		if !ok {
			return
		}
		at = to
		raise(places, t.nodes[at].values)
	}
}

// raise makes each number as great as the other list's one of the same place, if that is greater; what goes beyond the numbers says nothing.
func raise(numbers, by []uint8) {
	for i := range min(len(numbers), len(by)) {
		numbers[i] = max(numbers[i], by[i])
	}
}

// between is a word's letters between its two ends.
func between(word []int32) []int32 {
	row := make([]int32, 0, len(word)+2)
	row = append(row, end)
	row = append(row, word...)
	return append(row, end)
}
