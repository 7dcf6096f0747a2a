package note_test

import (
	"strings"
	"testing"

	"tunes/note"
)

func TestNumberOfEveryByte(t *testing.T) {
	for i := range 256 {
		b := byte(i)
		number, known := note.Number(b)
		isNote := b >= 'a' && b <= 'h'
		if known != isNote || isNote && number != i-'a' || !isNote && number != 0 {
			t.Errorf("Number(%q) = %d, %v", b, number, known)
		}
	}
}

func TestName(t *testing.T) {
	for number, want := range []string{"a", "b", "c", "d", "e", "f", "g", "h"} {
		if name := note.Name(number); name != want {
			t.Errorf("Name(%d) = %q, want %q", number, name, want)
		}
	}
	for _, number := range []int{-1, 8, 1 << 62, -1 << 63} {
		if name := note.Name(number); name != "" {
			t.Errorf("Name(%d) = %q, want the empty text", number, name)
		}
	}
}

func TestIsTune(t *testing.T) {
	for _, tune := range []string{"", "a", "h", "abcdefgh", "abcdefghabcd", "hhhhhhhhhhhh"} {
		if !note.IsTune(tune) {
			t.Errorf("IsTune(%q) is false", tune)
		}
	}
	for _, text := range []string{"i", "`", "A", "a b", "aaaaaaaaaaai", "iaaaaaaaaaaa", "abcdefghabcde", "\x00", "\xff", "é", strings.Repeat("a", 1<<20)} {
		if note.IsTune(text) {
			t.Errorf("IsTune of %d bytes, %.20q, is true", len(text), text)
		}
	}
}
