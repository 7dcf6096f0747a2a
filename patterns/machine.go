package patterns

import (
	"tunes/api"
	"tunes/table"
)

// There is one spot for each 1 of the pattern's size, and one ahead of them, where nothing is read yet.
const maxSpots = api.MaxSize + 1

// machine reads a text along spots: each note is read at some spot. It tells of each spot which spots
// may come behind it, and of each note at which spots it is read. A set of spots is a number, with one
// bit for each spot.
type machine struct {
	behind  []int
	readers [api.Notes]int
}

// stretch is a part of a pattern, laid along spots: whether it may be empty, at which spots its texts
// may begin, and at which they may end.
type stretch struct {
	empty bool
	first int
	last  int
}

// addSpot adds a spot, and gives the set of it alone.
func (m *machine) addSpot(notes [api.Notes]bool) int {
	spot := 1 << len(m.behind)
	m.behind = append(m.behind, 0)
	for number := 0; number < api.Notes; number++ {
		if notes[number] {
			m.readers[number] |= spot
		}
	}
	return spot
}

// link says that each spot of the one set may have each of the other behind it.
func (m *machine) link(lasts int, firsts int) {
	for i := 0; i < len(m.behind); i++ {
		if lasts&(1<<i) != 0 {
			m.behind[i] |= firsts
		}
	}
}

func (m *machine) chain(one stretch, two stretch) stretch {
	m.link(one.last, two.first)
	whole := stretch{empty: one.empty && two.empty, first: one.first, last: two.last}
	if one.empty {
		whole.first |= two.first
	}
	if two.empty {
		whole.last |= one.last
	}
	return whole
}

// lay lays a node along new spots. It ends, since a node is made of nodes ahead of it.
func (m *machine) lay(nodes []node, at int) stretch {
	n := nodes[at]
	switch n.kind {
	case single:
		spot := m.addSpot(n.notes)
		return stretch{first: spot, last: spot}
	case chain:
		one := m.lay(nodes, n.one)
		two := m.lay(nodes, n.two)
		return m.chain(one, two)
	case choice:
		one := m.lay(nodes, n.one)
		two := m.lay(nodes, n.two)
		return stretch{empty: one.empty || two.empty, first: one.first | two.first, last: one.last | two.last}
	case repeat:
		return m.layCopies(nodes, n)
	}
	return stretch{empty: true}
}

// layCopies lays each copy along spots of its own.
func (m *machine) layCopies(nodes []node, n node) stretch {
	whole := stretch{empty: true}
	// What has no size means the empty text alone, and so do its copies, of which there may be very many
	// where repetitions stand in one another.
	if n.size == 0 {
		return whole
	}
	for i := 0; i < n.times.copies; i++ {
		part := m.lay(nodes, n.one)
		if i >= n.times.least {
			part.empty = true
			if n.times.endless {
				m.link(part.last, part.first)
			}
		}
		whole = m.chain(whole, part)
	}
	return whole
}

// follow gives all spots that may come behind those of the set.
func (m *machine) follow(spots int) int {
	next := 0
	for i := 0; i < len(m.behind); i++ {
		if spots&(1<<i) != 0 {
			next |= m.behind[i]
		}
	}
	return next
}

// widen gives the wide table whose states are the sets of spots at which one may be. It has only the sets
// that some text leads to from begin, numbered as one comes to them. A set accepts if it has one of lasts.
func (m *machine) widen(begin int, lasts int) *table.Wide {
	w := &table.Wide{}
	// Of each set one more than its number, so that 0 says: not met yet.
	var met [1 << maxSpots]int
	met[begin] = 1
	sets := []int{begin}
	for at := 0; at < len(sets); at++ {
		next := m.follow(sets[at])
		var row [api.Notes]int
		for number := 0; number < api.Notes; number++ {
			to := next & m.readers[number]
			if met[to] == 0 {
				sets = append(sets, to)
				met[to] = len(sets)
			}
			row[number] = met[to] - 1
		}
		w.Add(sets[at]&lasts != 0, row)
	}
	return w
}
