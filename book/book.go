// Package book: the tunes of a book, its knots, and its cursors.
package book

import (
	"tunes/api"
	"tunes/note"
)

// Book is a book of tunes, with its cursors. One in which nothing is set has no tunes and no cursors.
type Book struct {
	tunes   [api.MaxBook]string // in the order, and empty texts behind the first count of them
	count   int
	cursors [api.MaxCursors]cursor
}

// place gives how many tunes of b stand ahead of the text: there it stands, or would stand.
func (b *Book) place(text string) int {
	place := 0
	for place < b.count && b.tunes[place] < text {
		place++
	}
	return place
}

func (b *Book) standsAt(place int, text string) bool {
	return place < b.count && b.tunes[place] == text
}

// Add puts a tune in, and tells whether it is new (P10).
func (b *Book) Add(tune string) (bool, api.Errno) {
	if !note.IsTune(tune) {
		return false, api.ErrTune
	}
	place := b.place(tune)
	if b.standsAt(place, tune) {
		return false, api.OK
	}
	if b.count >= api.MaxBook {
		return false, api.ErrFull
	}
	for i := b.count; i > place; i-- {
		b.tunes[i] = b.tunes[i-1]
	}
	b.tunes[place] = tune
	b.count++
	return true, api.OK
}

// Drop takes a tune away, and tells whether it was there (P10).
func (b *Book) Drop(tune string) (bool, api.Errno) {
	if !note.IsTune(tune) {
		return false, api.ErrTune
	}
	place := b.place(tune)
	if !b.standsAt(place, tune) {
		return false, api.OK
	}
	b.count--
	for i := place; i < b.count; i++ {
		b.tunes[i] = b.tunes[i+1]
	}
	b.tunes[b.count] = ""
	return true, api.OK
}

// Has tells whether a tune is there (P10).
func (b *Book) Has(tune string) (bool, api.Errno) {
	if !note.IsTune(tune) {
		return false, api.ErrTune
	}
	place := b.place(tune)
	return b.standsAt(place, tune), api.OK
}

// Count tells how many tunes there are (P10).
func (b *Book) Count() int { return b.count }
