// Package note: the notes, their numbers and their names.
package note

import "tunes/api"

const names = "abcdefgh"

func isNote(b byte) bool {
	return b >= 'a' && b < 'a'+api.Notes
}

// Number gives the number of a note, and whether the byte is a note at all.
func Number(b byte) (int, bool) {
	if !isNote(b) {
		return 0, false
	}
	return int(b - 'a'), true
}

// Name gives the note of a number as a text; the empty text, if no note has that number.
func Name(number int) string {
	if number < 0 || number >= len(names) {
		return ""
	}
	return names[number : number+1]
}

// IsTune tells whether the text is a tune.
func IsTune(text string) bool {
	// The length is looked at first, so that a very long text costs no more than a short one.
	if len(text) > api.MaxTune {
		return false
	}
	for i := 0; i < len(text); i++ {
		if !isNote(text[i]) {
			return false
		}
	}
	return true
}
