package book

import (
	"tunes/api"
	"tunes/table"
)

// cursor is a place in the book, and the table that chooses the tunes behind it.
type cursor struct {
	open  bool
	table api.Table
	begun bool   // whether it has given a tune
	last  string // that tune; it may be in the book no more
}

// wants tells whether the cursor is still to give the tune, if the book has it.
func (c cursor) wants(tune string) bool {
	if c.begun && tune <= c.last {
		return false
	}
	accepts, errno := table.Run(c.table, tune)
	return accepts && errno == api.OK
}

func (b *Book) isOpen(number int) bool {
	return number >= 0 && number < len(b.cursors) && b.cursors[number].open
}

// Open opens a cursor for the table as it is now, and gives its number (P12).
func (b *Book) Open(t api.Table) (int, api.Errno) {
	if !table.Valid(t) {
		return 0, api.ErrTable
	}
	for number := 0; number < len(b.cursors); number++ {
		if !b.cursors[number].open {
			own := table.Copy(t)
			b.cursors[number] = cursor{open: true, table: own}
			return number, api.OK
		}
	}
	return 0, api.ErrFull
}

// Close closes a cursor (P12).
func (b *Book) Close(number int) api.Errno {
	if !b.isOpen(number) {
		return api.ErrCursor
	}
	b.cursors[number] = cursor{}
	return api.OK
}

// Next gives the next tunes of a cursor, and whether none is left behind them (P13).
func (b *Book) Next(number int, limit int) ([]string, bool, api.Errno) {
	if !b.isOpen(number) {
		return nil, false, api.ErrCursor
	}
	if limit < 1 || limit > api.MaxLimit {
		return nil, false, api.ErrArg
	}
	given, all := b.choose(b.cursors[number], limit)
	if len(given) > 0 {
		b.cursors[number].begun = true
		b.cursors[number].last = given[len(given)-1]
	}
	return given, all, api.OK
}

// choose gives the first tunes that the cursor is still to give, at most limit, and whether these are all.
func (b *Book) choose(c cursor, limit int) ([]string, bool) {
	var chosen []string
	for i := 0; i < b.count; i++ {
		tune := b.tunes[i]
		if !c.wants(tune) {
			continue
		}
		if len(chosen) == limit {
			return chosen, false
		}
		chosen = append(chosen, tune)
	}
	return chosen, true
}
