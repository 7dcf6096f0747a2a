// Package ear: making tables of tunes that are remembered roughly.
package ear

import (
	"tunes/api"
	"tunes/note"
	"tunes/table"
)

// Near gives the least table of the texts whose distance from the tune is at most that (P9).
func Near(tune string, distance int, budget int) (api.Table, api.Errno) {
	if !note.IsTune(tune) {
		return api.Table{}, api.ErrTune
	}
	if distance < 0 || distance > api.MaxDistance {
		return api.Table{}, api.ErrArg
	}
	l := listener{tune: tune, most: distance}
	wide := l.widen()
	return wide.Least(budget)
}

// listener compares texts with a tune. Distances above most are all the same to it.
type listener struct {
	tune string
	most int
}

// heard tells of a text how far it is from each beginning of the tune: at a place stands the distance
// from the beginning of that length, or most + 1, if it is greater. The places behind the tune are 0.
type heard [api.MaxTune + 1]int

// begin gives what is heard of the empty text.
func (l listener) begin() heard {
	var none heard
	for i := 0; i <= len(l.tune); i++ {
		none[i] = lesser(i, l.most+1)
	}
	return none
}

// hear gives what is heard of a text with one more note behind it. It needs no more of the text than what
// was heard of it: the note is put in, or a note of the tune is taken away, or made this one.
func (l listener) hear(before heard, number int) heard {
	var after heard
	after[0] = lesser(before[0]+1, l.most+1)
	for i := 0; i < len(l.tune); i++ {
		made := before[i]
		own, known := note.Number(l.tune[i])
		if !known || own != number {
			made++
		}
		putIn := before[i+1] + 1
		takenAway := after[i] + 1
		changes := lesser(putIn, takenAway)
		changes = lesser(changes, made)
		after[i+1] = lesser(changes, l.most+1)
	}
	return after
}

// widen gives the wide table whose states are all that may be heard, numbered as one comes to them. They
// are not many: only beginnings of nearly the length of the text are not too far from it, and no
// beginning is near a text that is much longer than the tune.
func (l listener) widen() *table.Wide {
	w := &table.Wide{}
	begin := l.begin()
	states := []heard{begin}
	for at := 0; at < len(states); at++ {
		var row [api.Notes]int
		for number := 0; number < api.Notes; number++ {
			after := l.hear(states[at], number)
			state := find(states, after)
			if state == len(states) {
				states = append(states, after)
			}
			row[number] = state
		}
		w.Add(states[at][len(l.tune)] <= l.most, row)
	}
	return w
}

// find gives the place of one among the states; the number of states, if it is not among them.
func find(states []heard, one heard) int {
	for at, state := range states {
		if state == one {
			return at
		}
	}
	return len(states)
}

func lesser(one int, two int) int {
	if one < two {
		return one
	}
	return two
}
