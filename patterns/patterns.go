// Package patterns: reading patterns, and making tables of them.
package patterns

import (
	"tunes/api"
	"tunes/table"
)

// Compile gives the least table of a pattern; with an error, its place (P7, P8).
func Compile(pattern string, budget int) (api.Table, api.Errno, int) {
	if len(pattern) > api.MaxPattern {
		return api.Table{}, api.ErrLong, 0
	}
	p := parser{text: pattern}
	whole, good := p.parse()
	if !good {
		return api.Table{}, api.ErrPattern, p.at
	}
	if p.backward {
		return api.Table{}, api.ErrSpan, p.span
	}
	if p.made.nodes[whole].size > api.MaxSize {
		return api.Table{}, api.ErrSize, 0
	}
	wide := build(p.made.nodes, whole)
	least, errno := wide.Least(budget)
	return least, errno, 0
}

// build gives a wide table that means the same as the node, whose size is at most MaxSize.
func build(nodes []node, whole int) *table.Wide {
	var m machine
	// No note is read at the spot ahead, so that one is there only before the first note.
	var none [api.Notes]bool
	ahead := m.addSpot(none)
	begin := stretch{first: ahead, last: ahead}
	body := m.lay(nodes, whole)
	all := m.chain(begin, body)
	return m.widen(ahead, all.last)
}
