package tunes_test

import (
	"slices"
	"testing"

	"tunes/api"
	"tunes/tunes"
)

func checkOpen(t *testing.T, b *tunes.Book, table api.Table, want int, wantErr api.Errno) {
	t.Helper()
	if number, e := b.Open(table); number != want || e != wantErr {
		t.Fatalf("P12: Open = %d, %d, want %d, %d", number, e, want, wantErr)
	}
}

func checkClose(t *testing.T, b *tunes.Book, number int, want api.Errno) {
	t.Helper()
	if e := b.Close(number); e != want {
		t.Fatalf("P12: Close(%d) = %d, want %d", number, e, want)
	}
}

func checkNext(t *testing.T, b *tunes.Book, number, limit int, all bool, want ...string) {
	t.Helper()
	if list, done, e := b.Next(number, limit); !slices.Equal(list, want) || done != all || e != api.OK {
		t.Fatalf("P13: Next(%d, %d) = %q, %v, %d, want %q, %v", number, limit, list, done, e, want, all)
	}
}

func checkNoNext(t *testing.T, b *tunes.Book, number, limit int, want api.Errno) {
	t.Helper()
	if list, done, e := b.Next(number, limit); list != nil || done || e != want {
		t.Fatalf("P13: Next(%d, %d) = %q, %v, %d, want nothing and %d", number, limit, list, done, e, want)
	}
}

// wrongLimits are numbers that are no limit of Next.
var wrongLimits = []int{0, -1, api.MaxLimit + 1, 1 << 32, 1<<63 - 1, -1 << 63}

// checkNoCursor checks that no cursor of that number is open.
func checkNoCursor(t *testing.T, b *tunes.Book, number int) {
	t.Helper()
	checkNoNext(t, b, number, 1, api.ErrCursor)
	for _, limit := range wrongLimits {
		checkNoNext(t, b, number, limit, api.ErrCursor)
	}
	checkClose(t, b, number, api.ErrCursor)
}

func TestP12TheLeastFreeNumber(t *testing.T) {
	b := book(t, "a")
	for number := range api.MaxCursors {
		checkNoCursor(t, b, number)
		checkOpen(t, b, every(), number, api.OK)
	}
	checkOpen(t, b, every(), 0, api.ErrFull)
	for _, free := range [][]int{{2}, {0}, {3}, {3, 1}, {0, 2, 1}, {3, 2, 1, 0}} {
		for _, number := range free {
			checkClose(t, b, number, api.OK)
			checkNoCursor(t, b, number)
		}
		slices.Sort(free)
		for _, number := range free {
			checkOpen(t, b, every(), number, api.OK)
			checkNext(t, b, number, 1, true, "a")
		}
		checkOpen(t, b, every(), 0, api.ErrFull)
	}
}

func TestP12WhatIsNoTable(t *testing.T) {
	b := book(t, "a", "b")
	for opened := range api.MaxCursors + 1 {
		for _, wrong := range noTables() {
			checkOpen(t, b, wrong, 0, api.ErrTable)
		}
		for number := opened; number < api.MaxCursors; number++ {
			checkNoCursor(t, b, number)
		}
		if opened < api.MaxCursors {
			checkOpen(t, b, every(), opened, api.OK)
			checkNext(t, b, opened, 1, false, "a")
		}
	}
	checkOpen(t, b, every(), 0, api.ErrFull)
	for number := range api.MaxCursors {
		checkNext(t, b, number, 1, true, "b")
	}
}

func TestP12NumbersOfNoCursor(t *testing.T) {
	b := book(t, "a", "b")
	checkOpen(t, b, every(), 0, api.OK)
	checkOpen(t, b, every(), 1, api.OK)
	checkClose(t, b, 0, api.OK)
	for _, number := range []int{0, 2, 3, 4, 5, -1, -2, 1 << 32, 1<<32 + 1, 1<<63 - 1, -1 << 63} {
		checkNoCursor(t, b, number)
	}
	checkNext(t, b, 1, 2, true, "a", "b")
}

func TestP12ACursorThatIsOpenedAgainBeginsAnew(t *testing.T) {
	b := book(t, "", "a", "b", "c")
	checkOpen(t, b, compiled(t, "[ab]"), 0, api.OK)
	checkNext(t, b, 0, 2, true, "a", "b")
	checkClose(t, b, 0, api.OK)
	checkOpen(t, b, every(), 0, api.OK)
	checkNext(t, b, 0, 5, true, "", "a", "b", "c")
}

func TestP13TheOrderAndTheLimit(t *testing.T) {
	b := book(t, "abc", "abd", "a", "h")
	checkOpen(t, b, compiled(t, ".*"), 0, api.OK)
	checkNext(t, b, 0, 2, false, "a", "abc")
	checkAdd(t, b, "ab", true, api.OK)
	checkAdd(t, b, "b", true, api.OK)
	checkNext(t, b, 0, 2, false, "abd", "b")
	checkNext(t, b, 0, 2, true, "h")
	checkNext(t, b, 0, 2, true)
	checkAdd(t, b, "hh", true, api.OK)
	checkNext(t, b, 0, api.MaxLimit, true, "hh")
}

func TestP13NoneLeftIsToldAtOnce(t *testing.T) {
	b := book(t, "a", "aa", "ab", "b", "h")
	want := []string{"a", "aa", "ab"}
	for _, limit := range []int{1, 2, 3, 4, 5, api.MaxLimit} {
		checkOpen(t, b, compiled(t, "a.?"), 0, api.OK)
		checkNext(t, b, 0, limit, limit >= len(want), want[:min(limit, len(want))]...)
		checkClose(t, b, 0, api.OK)
	}
}

func TestP13AFullBook(t *testing.T) {
	list := pairs()[:api.MaxBook]
	b := book(t, list...)
	for number, limit := range []int{1, 7, api.MaxLimit - 1, api.MaxLimit} {
		checkOpen(t, b, every(), number, api.OK)
		for at := 0; at < len(list); at += limit {
			end := min(at+limit, len(list))
			checkNext(t, b, number, limit, end == len(list), list[at:end]...)
		}
		checkNext(t, b, number, limit, true)
	}
}

func TestP13TheEmptyTuneIsGivenOnce(t *testing.T) {
	b := book(t, "")
	checkOpen(t, b, every(), 0, api.OK)
	checkOpen(t, b, none(), 1, api.OK)
	checkOpen(t, b, odd(), 2, api.OK)
	checkNext(t, b, 0, 1, true, "")
	checkNext(t, b, 0, 1, true)
	checkNext(t, b, 1, 1, true)
	checkNext(t, b, 2, 1, true)
	checkDrop(t, b, "", true, api.OK)
	checkAdd(t, b, "", true, api.OK)
	checkAdd(t, b, "a", true, api.OK)
	checkNext(t, b, 0, 1, true, "a")
	checkNext(t, b, 1, 1, true)
	checkNext(t, b, 2, 1, true, "a")
}

func TestP13ACursorThatHasGivenNothing(t *testing.T) {
	b := book(t)
	checkOpen(t, b, every(), 0, api.OK)
	checkNext(t, b, 0, 1, true)
	checkAdd(t, b, "h", true, api.OK)
	checkAdd(t, b, "", true, api.OK)
	checkNext(t, b, 0, 2, true, "", "h")
}

func TestP13WhatIsDroppedAndAdded(t *testing.T) {
	b := book(t, "a", "b", "d", "e", "f")
	checkOpen(t, b, every(), 0, api.OK)
	checkNext(t, b, 0, 2, false, "a", "b")
	// The last tune it has given goes, and its place stays.
	checkDrop(t, b, "b", true, api.OK)
	checkAdd(t, b, "ah", true, api.OK)
	checkAdd(t, b, "ba", true, api.OK)
	checkDrop(t, b, "d", true, api.OK)
	checkNext(t, b, 0, 1, false, "ba")
	checkAdd(t, b, "b", true, api.OK)
	checkAdd(t, b, "d", true, api.OK)
	checkDrop(t, b, "ba", true, api.OK)
	checkAdd(t, b, "ba", true, api.OK)
	checkNext(t, b, 0, 2, false, "d", "e")
	checkDrop(t, b, "f", true, api.OK)
	checkNext(t, b, 0, 2, true)
	checkOpen(t, b, every(), 1, api.OK)
	checkNext(t, b, 1, 9, true, "a", "ah", "b", "ba", "d", "e")
}

func TestP13CursorsDoNotMoveOneAnother(t *testing.T) {
	b := book(t, "", "a", "b", "c")
	checkOpen(t, b, every(), 0, api.OK)
	checkOpen(t, b, every(), 1, api.OK)
	checkOpen(t, b, compiled(t, "[bc]"), 2, api.OK)
	checkNext(t, b, 0, 3, false, "", "a", "b")
	checkNext(t, b, 1, 1, false, "")
	checkNext(t, b, 2, 1, false, "b")
	checkClose(t, b, 0, api.OK)
	checkNext(t, b, 1, 9, true, "a", "b", "c")
	checkNext(t, b, 2, 9, true, "c")
}

func TestP13AfterAnErrorTheCursorStandsWhereItStood(t *testing.T) {
	b := book(t, "a", "b")
	checkOpen(t, b, every(), 0, api.OK)
	for _, want := range []string{"a", "b"} {
		for _, limit := range wrongLimits {
			checkNoNext(t, b, 0, limit, api.ErrArg)
		}
		checkNext(t, b, 0, 1, want == "b", want)
	}
	checkNoNext(t, b, 0, api.MaxLimit+1, api.ErrArg)
	checkNext(t, b, 0, 1, true)
}

func TestP13TablesOfMaxStates(t *testing.T) {
	b := book(t, "aaaaaaaaaaaa", "bbaa", "bab", "a")
	checkOpen(t, b, counter(api.MaxStates, 0, true, true), 0, api.OK)
	checkNext(t, b, 0, 9, true, "a", "aaaaaaaaaaaa", "bab", "bbaa")
	checkOpen(t, b, counter(3, 0, true, false), 1, api.OK)
	checkNext(t, b, 1, 9, true, "bbaa")
	checkOpen(t, b, near(t, "bb", 1), 2, api.OK)
	checkNext(t, b, 2, 9, true, "bab")
}
