package tunes_test

import (
	"strings"
	"testing"

	"tunes/api"
	"tunes/tunes"
)

func checkFirst(t *testing.T, table api.Table, want string, wantFound bool) {
	t.Helper()
	if text, found, e := tunes.First(table); text != want || found != wantFound || e != api.OK {
		t.Errorf("P4: First(%v) = %q, %v, %d, want %q, %v", table, text, found, e, want, wantFound)
	}
}

func TestP4First(t *testing.T) {
	checkFirst(t, every(), "", true)
	checkFirst(t, none(), "", false)
	checkFirst(t, odd(), "a", true)
	// [c-h]{2}|dab
	checkFirst(t, rows("000010", "55121111", "55444444", "35444444", "54555555", "55555555", "55555555"), "cc", true)
	// aaa|b: the shorter text, though the longer stands ahead of it in the order.
	checkFirst(t, rows("00010", "13444444", "24444444", "34444444", "44444444", "44444444"), "b", true)
	// ah|ba: the first in the order, though its last note is the later one.
	checkFirst(t, rows("0001", "12000000", "00000003", "30000000", "33333333"), "ah", true)
	// g|h: the numbers of the states that accept do not matter.
	checkFirst(t, rows("0110", "33333312", "33333333", "33333333", "33333333"), "g", true)
	checkFirst(t, rows("0110", "33333321", "33333333", "33333333", "33333333"), "g", true)
	// A state that accepts, but that no text leads to.
	checkFirst(t, rows("01", "00000000", "11111111"), "", false)
}

func TestP4FirstOfMaxStates(t *testing.T) {
	checkFirst(t, counter(api.MaxStates, 7, false, false), strings.Repeat("h", api.MaxStates-1), true)
	checkFirst(t, counter(api.MaxStates, 0, true, false), strings.Repeat("a", api.MaxStates-1), true)
	deaf := counter(api.MaxStates, 7, false, false)
	deaf.Accept[api.MaxStates-1] = false
	checkFirst(t, deaf, "", false)
}

// firstOf looks through all texts of less notes than the table has states, by length and in the order.
func firstOf(table api.Table) (string, bool) {
	texts := []string{""}
	for range table.Next {
		var longer []string
		for _, text := range texts {
			if accepts, _ := tunes.Run(table, text); accepts {
				return text, true
			}
			for i := range api.Notes {
				longer = append(longer, text+"abcdefgh"[i:i+1])
			}
		}
		texts = longer
	}
	return "", false
}

func TestP4FirstOfManyTables(t *testing.T) {
	d := dice(4)
	for i := range 600 {
		table := d.table(1+i%5, i%2 == 0)
		if i%3 > 0 {
			table.Accept = make([]bool, len(table.Accept))
			table.Accept[d.roll(len(table.Accept))] = true
		}
		text, found := firstOf(table)
		checkFirst(t, table, text, found)
	}
}
