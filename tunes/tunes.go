// Package tunes: a book of tunes, and asking it by patterns and by ear: see DOC.md.
package tunes

import (
	"tunes/api"
	"tunes/book"
	"tunes/ear"
	"tunes/patterns"
	"tunes/table"
)

// Book is a book of tunes, with its cursors.
type Book struct {
	inside book.Book
}

// Run tells whether a table accepts a text (P3).
func Run(t api.Table, text string) (bool, api.Errno) { return table.Run(t, text) }

// First tells the first of the shortest texts that a table accepts (P4).
func First(t api.Table) (string, bool, api.Errno) { return table.First(t) }

// Least gives the least table that means the same (P5).
func Least(t api.Table) (api.Table, api.Errno) { return table.Least(t) }

// Not gives the least table of the texts that are not accepted (P5).
func Not(t api.Table) (api.Table, api.Errno) { return table.Not(t) }

// Join joins two tables (P6).
func Join(t api.Table, u api.Table, how int, budget int) (api.Table, api.Errno) {
	return table.Join(t, u, how, budget)
}

// Compile gives the least table of a pattern (P7, P8).
func Compile(pattern string, budget int) (api.Table, api.Errno, int) {
	return patterns.Compile(pattern, budget)
}

// Near gives the least table of the texts that are near a tune (P9).
func Near(tune string, distance int, budget int) (api.Table, api.Errno) {
	return ear.Near(tune, distance, budget)
}

// New gives an empty book (P10).
func New() *Book { return &Book{} }

// Add puts a tune in (P10).
func (b *Book) Add(tune string) (bool, api.Errno) { return b.inside.Add(tune) }

// Drop takes a tune away (P10).
func (b *Book) Drop(tune string) (bool, api.Errno) { return b.inside.Drop(tune) }

// Has tells whether a tune is there (P10).
func (b *Book) Has(tune string) (bool, api.Errno) { return b.inside.Has(tune) }

// Count tells how many tunes there are (P10).
func (b *Book) Count() int { return b.inside.Count() }

// Knots tells the knots (P11).
func (b *Book) Knots() []string { return b.inside.Knots() }

// Open opens a cursor (P12).
func (b *Book) Open(t api.Table) (int, api.Errno) { return b.inside.Open(t) }

// Next gives the next tunes of a cursor (P13).
func (b *Book) Next(cursor int, limit int) ([]string, bool, api.Errno) {
	return b.inside.Next(cursor, limit)
}

// Close closes a cursor (P12).
func (b *Book) Close(cursor int) api.Errno { return b.inside.Close(cursor) }
