package tunes_test

import (
	"reflect"
	"testing"

	"tunes/api"
	"tunes/tunes"
)

// flipped is the table that accepts just what t does not, with the states of t.
func flipped(t api.Table) api.Table {
	f := copied(t)
	for i := range f.Accept {
		f.Accept[i] = !f.Accept[i]
	}
	return f
}

// checkLeastAndNot checks both calls on a table whose least table is known.
func checkLeastAndNot(t *testing.T, table, want api.Table) {
	t.Helper()
	least, e := tunes.Least(table)
	if e != api.OK || !reflect.DeepEqual(least, want) {
		t.Errorf("P5: Least(%v) = %v, %d, want %v", table, least, e, want)
	}
	not, e := tunes.Not(table)
	if e != api.OK || !reflect.DeepEqual(not, flipped(want)) {
		t.Errorf("P5: Not(%v) = %v, %d, want %v", table, not, e, flipped(want))
	}
}

func TestP5LeastAndNot(t *testing.T) {
	ab := rows("0001", "12222222", "23222222", "22222222", "22222222")
	checkLeastAndNot(t, every(), every())
	checkLeastAndNot(t, none(), none())
	checkLeastAndNot(t, odd(), odd())
	checkLeastAndNot(t, ab, ab)
	// The same with its states numbered otherwise.
	checkLeastAndNot(t, rows("0010", "13333333", "32333333", "33333333", "33333333"), ab)
	checkLeastAndNot(t, rows("0001", "21111111", "11111111", "13111111", "11111111"), ab)
	// The same with two dead ends, and with a state that no text leads to.
	checkLeastAndNot(t, rows("001001", "13434343", "32444444", "33333344", "44444444", "33333333", "01234501"), ab)
	// b|ab: both ways end in one state.
	checkLeastAndNot(t, rows("001100", "12555555", "43444444", "44444444", "55555555", "55555555", "44444444"),
		rows("0010", "12333333", "32333333", "33333333", "33333333"))
	// A ring of four that is a ring of two.
	checkLeastAndNot(t, rows("0101", "10000000", "21111111", "32222222", "03333333"), odd())
	// States that no short text tells apart.
	late := rows("00001", "12222222", "33333333", "00000000", "44444444", "44444444")
	checkLeastAndNot(t, late, late)
}

func TestP5LeastOfMaxStates(t *testing.T) {
	for _, ring := range []bool{false, true} {
		most := counter(api.MaxStates, 0, ring, false)
		checkLeastAndNot(t, most, most)
		checkLeastAndNot(t, counter(api.MaxStates, 3, ring, true), every())
		checkLeastAndNot(t, flipped(counter(api.MaxStates, 7, ring, true)), none())
	}
	// From behind: state 0 leads to the last, and each to the one ahead of it.
	var back api.Table
	for i := range api.MaxStates {
		row := make([]int, api.Notes)
		for j := range row {
			row[j] = i
		}
		row[0] = (i + api.MaxStates - 1) % api.MaxStates
		back.Accept = append(back.Accept, i == 1)
		back.Next = append(back.Next, row)
	}
	checkLeastAndNot(t, back, counter(api.MaxStates, 0, true, false))
}

func TestP5LeastOfManyTables(t *testing.T) {
	d := dice(5)
	for i := range 800 {
		table := d.table(1+d.roll(api.MaxStates), i%2 == 0)
		if i%4 == 0 {
			table = d.table(1+d.roll(5), true)
		}
		least, e := tunes.Least(table)
		if e != api.OK {
			t.Fatalf("P5: Least(%v): %d", table, e)
		}
		checkLeast(t, least)
		if !meansJoin(least, table, table, api.And) {
			t.Fatalf("P5: Least(%v) = %v means another thing", table, least)
		}
		checkLeastAndNot(t, table, least)
		checkLeastAndNot(t, least, least)
	}
}
