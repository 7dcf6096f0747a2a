// Package table: reading tables, joining them, and making them least.
package table

import (
	"tunes/api"
	"tunes/note"
)

// Valid tells whether the lists of t are a table.
func Valid(t api.Table) bool {
	states := len(t.Next)
	if states < 1 || states > api.MaxStates || len(t.Accept) != states {
		return false
	}
	for _, row := range t.Next {
		if !validRow(row, states) {
			return false
		}
	}
	return true
}

func validRow(row []int, states int) bool {
	if len(row) != api.Notes {
		return false
	}
	for _, state := range row {
		if state < 0 || state >= states {
			return false
		}
	}
	return true
}

// Copy gives the same lists in memory of their own, so that one may keep what another writes into.
func Copy(t api.Table) api.Table {
	var c api.Table
	for _, accepts := range t.Accept {
		c.Accept = append(c.Accept, accepts)
	}
	for _, row := range t.Next {
		var own []int
		for _, state := range row {
			own = append(own, state)
		}
		c.Next = append(c.Next, own)
	}
	return c
}

// Run tells whether t accepts the text (P3).
func Run(t api.Table, text string) (bool, api.Errno) {
	if !Valid(t) {
		return false, api.ErrTable
	}
	// The length is looked at first, so that a very long text costs no more than a short one.
	if len(text) > api.MaxRun {
		return false, api.ErrTune
	}
	state := 0
	for i := 0; i < len(text); i++ {
		number, known := note.Number(text[i])
		if !known {
			return false, api.ErrTune
		}
		state = t.Next[state][number]
	}
	return t.Accept[state], api.OK
}

// reached is a state, with the text on which it was come to first.
type reached struct {
	state int
	text  string
}

// First gives the first of the shortest texts that t accepts, and whether there is one (P4).
func First(t api.Table) (string, bool, api.Errno) {
	if !Valid(t) {
		return "", false, api.ErrTable
	}
	var met [api.MaxStates]bool
	met[0] = true
	queue := []reached{{state: 0, text: ""}}
	// States come into the queue by the length of their texts, and texts of one length in the order:
	// so the first state found that accepts has the text that is asked for.
	for at := 0; at < len(queue); at++ {
		here := queue[at]
		if t.Accept[here.state] {
			return here.text, true, api.OK
		}
		for number := 0; number < api.Notes; number++ {
			next := t.Next[here.state][number]
			if !met[next] {
				met[next] = true
				name := note.Name(number)
				queue = append(queue, reached{state: next, text: here.text + name})
			}
		}
	}
	return "", false, api.OK
}
