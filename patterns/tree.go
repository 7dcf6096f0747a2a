package patterns

import "tunes/api"

// The kinds of a node.
const (
	nothing = iota // the empty text alone
	single         // any one note of a set
	chain          // a text of one, then a text of two
	choice         // a text of one, or a text of two
	repeat         // texts of one, a number of times
)

// mark tells how often a part comes: it stands there in so many copies, of which the first ones, least of
// them, must come, and the others need not; if it is endless, the last copy may come any number of times.
type mark struct {
	least   int
	copies  int
	endless bool
}

// node is a part of a pattern. What it is made of, if anything, are the nodes one and two.
type node struct {
	kind  int
	size  int
	notes [api.Notes]bool
	times mark
	one   int
	two   int
}

// tree is a pattern, part by part. Each node stands behind the nodes that it is made of.
type tree struct {
	nodes []node
}

func (t *tree) add(n node) int {
	t.nodes = append(t.nodes, n)
	return len(t.nodes) - 1
}

func (t *tree) addSingle(notes [api.Notes]bool) int {
	return t.add(node{kind: single, size: 1, notes: notes})
}

// addTwo adds a chain or a choice.
func (t *tree) addTwo(kind int, one int, two int) int {
	size := t.nodes[one].size + t.nodes[two].size
	return t.add(node{kind: kind, size: size, one: one, two: two})
}

// addRepeat adds what an atom with a mark means. The size cannot grow beyond an int: a text of MaxPattern
// bytes has no more notes than that, and at most MaxDepth + 1 marks about each, of 10 copies at most.
func (t *tree) addRepeat(one int, times mark) int {
	size := t.nodes[one].size * times.copies
	return t.add(node{kind: repeat, size: size, times: times, one: one})
}
