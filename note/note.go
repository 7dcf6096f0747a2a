// Package note: the notes, their numbers and their names.
package note

import "tunes/api"

const names = "abcdefgh"

// Number gives the number of a note, and whether the byte is a note at all.
func Number(b byte) (int, bool) {
	if b < 'a' || b >= 'a'+api.Notes {
		return 0, false
	}
	return int(b - 'a'), true
}

// Name gives the note of a number as a text; the empty text, if no note has that number.
func Name(number int) string {
	if number < 0 || number >= len(names) {
		return ""
	}
	return names[number : number+1]
}
