package patterns

import (
	"tunes/api"
	"tunes/note"
)

// parser reads a pattern from its first byte on. It takes a byte only if some pattern begins with all that
// it has taken so far; so, where it fails, at is the place of the error.
type parser struct {
	text     string
	at       int
	made     tree
	backward bool
	span     int
}

// parse gives the whole text as a node, and whether it is a pattern.
func (p *parser) parse() (int, bool) {
	whole, good := p.pattern(0)
	return whole, good && p.at == len(p.text)
}

// pattern reads sequences up to a byte that can stand in none of them: the end, or a closing bracket.
func (p *parser) pattern(depth int) (int, bool) {
	whole, good := p.sequence(depth)
	for good && p.take('|') {
		var next int
		next, good = p.sequence(depth)
		if good {
			whole = p.made.addTwo(choice, whole, next)
		}
	}
	return whole, good
}

func (p *parser) sequence(depth int) (int, bool) {
	whole := p.made.add(node{kind: nothing})
	for !p.atSequenceEnd() {
		item, good := p.item(depth)
		if !good {
			return 0, false
		}
		whole = p.made.addTwo(chain, whole, item)
	}
	return whole, true
}

func (p *parser) atSequenceEnd() bool {
	if p.at >= len(p.text) {
		return true
	}
	return p.text[p.at] == '|' || p.text[p.at] == ')'
}

func (p *parser) item(depth int) (int, bool) {
	atom, good := p.atom(depth)
	if !good {
		return 0, false
	}
	if p.take('*') {
		return p.made.addRepeat(atom, mark{least: 0, copies: 1, endless: true}), true
	}
	if p.take('+') {
		return p.made.addRepeat(atom, mark{least: 1, copies: 2, endless: true}), true
	}
	if p.take('?') {
		return p.made.addRepeat(atom, mark{least: 0, copies: 1}), true
	}
	if !p.take('{') {
		return atom, true
	}
	count, good := p.count()
	if !good {
		return 0, false
	}
	return p.made.addRepeat(atom, count), true
}

func (p *parser) atom(depth int) (int, bool) {
	if depth < api.MaxDepth && p.take('(') {
		inner, good := p.pattern(depth + 1)
		if !good {
			return 0, false
		}
		return inner, p.take(')')
	}
	if p.take('[') {
		notes, good := p.set()
		if !good {
			return 0, false
		}
		return p.made.addSingle(notes), true
	}
	if p.take('.') {
		var none [api.Notes]bool
		all := others(none)
		return p.made.addSingle(all), true
	}
	number, good := p.note()
	if !good {
		return 0, false
	}
	var notes [api.Notes]bool
	notes[number] = true
	return p.made.addSingle(notes), true
}

// count reads what stands behind the opening brace of a mark.
func (p *parser) count() (mark, bool) {
	place := p.at
	least, good := p.digit()
	if !good {
		return mark{}, false
	}
	if p.take('}') {
		return mark{least: least, copies: least}, true
	}
	if !p.take(',') {
		return mark{}, false
	}
	if p.take('}') {
		return mark{least: least, copies: least + 1, endless: true}, true
	}
	most, good := p.digit()
	if !good {
		return mark{}, false
	}
	if most < least {
		p.tellBackward(place)
	}
	return mark{least: least, copies: most}, p.take('}')
}

// set reads what stands behind the opening bracket of a set.
func (p *parser) set() ([api.Notes]bool, bool) {
	var notes [api.Notes]bool
	outside := p.take('^')
	closed := false
	for !closed {
		place := p.at
		from, to, good := p.part()
		if !good {
			return notes, false
		}
		if to < from {
			p.tellBackward(place)
		}
		for number := from; number <= to; number++ {
			notes[number] = true
		}
		closed = p.take(']')
	}
	if outside {
		return others(notes), true
	}
	return notes, true
}

// part reads a note, or two with a line between them, and gives the numbers of the first and the last.
func (p *parser) part() (int, int, bool) {
	from, good := p.note()
	if !good {
		return 0, 0, false
	}
	if !p.take('-') {
		return from, from, true
	}
	to, good := p.note()
	return from, to, good
}

// others gives the notes that are not in the set.
func others(notes [api.Notes]bool) [api.Notes]bool {
	var rest [api.Notes]bool
	for number := 0; number < api.Notes; number++ {
		rest[number] = !notes[number]
	}
	return rest
}

// tellBackward keeps the place of a span that goes backward. Spans are met in the order of their places.
func (p *parser) tellBackward(place int) {
	if !p.backward {
		p.backward = true
		p.span = place
	}
}

// take goes beyond the next byte, if it is this one.
func (p *parser) take(b byte) bool {
	if p.at >= len(p.text) || p.text[p.at] != b {
		return false
	}
	p.at++
	return true
}

func (p *parser) note() (int, bool) {
	if p.at >= len(p.text) {
		return 0, false
	}
	number, known := note.Number(p.text[p.at])
	if known {
		p.at++
	}
	return number, known
}

func (p *parser) digit() (int, bool) {
	if p.at >= len(p.text) {
		return 0, false
	}
	b := p.text[p.at]
	if b < '0' || b > '9' {
		return 0, false
	}
	p.at++
	return int(b - '0'), true
}
