package tunes_test

import (
	"slices"
	"strings"
	"testing"

	"tunes/api"
	"tunes/tunes"
)

// book gives a book with these tunes.
func book(t *testing.T, list ...string) *tunes.Book {
	t.Helper()
	b := tunes.New()
	if b == nil {
		t.Fatal("P10: New gives nothing")
	}
	for _, tune := range list {
		checkAdd(t, b, tune, true, api.OK)
	}
	return b
}

func checkAdd(t *testing.T, b *tunes.Book, tune string, want bool, wantErr api.Errno) {
	t.Helper()
	if fresh, e := b.Add(tune); fresh != want || e != wantErr {
		t.Fatalf("P10: Add(%.40q) = %v, %d, want %v, %d", tune, fresh, e, want, wantErr)
	}
}

func checkDrop(t *testing.T, b *tunes.Book, tune string, want bool, wantErr api.Errno) {
	t.Helper()
	if had, e := b.Drop(tune); had != want || e != wantErr {
		t.Fatalf("P10: Drop(%.40q) = %v, %d, want %v, %d", tune, had, e, want, wantErr)
	}
}

func checkHas(t *testing.T, b *tunes.Book, tune string, want bool, wantErr api.Errno) {
	t.Helper()
	if has, e := b.Has(tune); has != want || e != wantErr {
		t.Fatalf("P10: Has(%.40q) = %v, %d, want %v, %d", tune, has, e, want, wantErr)
	}
}

func checkCount(t *testing.T, b *tunes.Book, want int) {
	t.Helper()
	if count := b.Count(); count != want {
		t.Fatalf("P10: Count() = %d, want %d", count, want)
	}
}

func checkKnots(t *testing.T, b *tunes.Book, want ...string) {
	t.Helper()
	if knots := b.Knots(); !slices.Equal(knots, want) {
		t.Fatalf("P11: Knots() = %q, want %q", knots, want)
	}
}

// pairs gives all 64 tunes of two notes, in the order.
func pairs() []string {
	var list []string
	for i := range notes {
		for j := range notes {
			list = append(list, notes[i:i+1]+notes[j:j+1])
		}
	}
	return list
}

// noTunes gives texts that are no tune.
func noTunes() []string {
	return []string{"i", "`", "A", "a ", " a", "a\n", "ab\x00", "\xff", "é", "a-h", "abcdefghabci", "iabcdefghabc",
		"abcdefghabcde", "aaaaaaaaaaaaa", strings.Repeat("a", api.MaxRun), strings.Repeat("i", 1<<20)}
}

func TestP10ANewBook(t *testing.T) {
	b := book(t)
	checkCount(t, b, 0)
	checkHas(t, b, "", false, api.OK)
	checkDrop(t, b, "", false, api.OK)
	checkHas(t, b, "abc", false, api.OK)
	checkDrop(t, b, "abc", false, api.OK)
	for number := -1; number <= api.MaxCursors; number++ {
		checkNoCursor(t, b, number)
	}
}

func TestP10AddDropHasCount(t *testing.T) {
	b := book(t)
	list := []string{"abc", "", "h", "ab", "abcdefghabcd", "hhhhhhhhhhhh", "abcd", "a"}
	for i, tune := range list {
		checkHas(t, b, tune, false, api.OK)
		checkAdd(t, b, tune, true, api.OK)
		checkHas(t, b, tune, true, api.OK)
		checkAdd(t, b, tune, false, api.OK)
		checkCount(t, b, i+1)
	}
	for _, tune := range []string{"b", "abd", "ac", "g", "hh", "abcde", "abcdefghabc", "hhhhhhhhhhhg"} {
		checkHas(t, b, tune, false, api.OK)
		checkDrop(t, b, tune, false, api.OK)
		checkCount(t, b, len(list))
	}
	for i, tune := range list {
		checkDrop(t, b, tune, true, api.OK)
		checkHas(t, b, tune, false, api.OK)
		checkDrop(t, b, tune, false, api.OK)
		checkCount(t, b, len(list)-1-i)
		for _, other := range list[i+1:] {
			checkHas(t, b, other, true, api.OK)
		}
	}
	checkAdd(t, b, "abc", true, api.OK)
	checkCount(t, b, 1)
}

func TestP10WhatIsNoTune(t *testing.T) {
	for _, b := range []*tunes.Book{book(t), book(t, "", "a", "ab"), book(t, pairs()[:api.MaxBook]...)} {
		count := b.Count()
		knots := b.Knots()
		for _, text := range noTunes() {
			checkAdd(t, b, text, false, api.ErrTune)
			checkDrop(t, b, text, false, api.ErrTune)
			checkHas(t, b, text, false, api.ErrTune)
		}
		checkCount(t, b, count)
		checkKnots(t, b, knots...)
	}
}

func TestP10AFullBook(t *testing.T) {
	list := pairs()
	inside, outside := list[2:62], append(list[62:], "aa", "ab", "", "abcdefghabcd")
	b := book(t, inside...)
	checkCount(t, b, api.MaxBook)
	for _, tune := range outside {
		checkAdd(t, b, tune, false, api.ErrFull)
		checkHas(t, b, tune, false, api.OK)
		checkDrop(t, b, tune, false, api.OK)
	}
	for _, tune := range inside {
		checkAdd(t, b, tune, false, api.OK)
		checkHas(t, b, tune, true, api.OK)
	}
	checkCount(t, b, api.MaxBook)
	for _, tune := range []string{inside[0], inside[30], inside[59]} {
		checkDrop(t, b, tune, true, api.OK)
		checkAdd(t, b, "", true, api.OK)
		checkAdd(t, b, tune, false, api.ErrFull)
		checkDrop(t, b, "", true, api.OK)
		checkAdd(t, b, tune, true, api.OK)
		checkCount(t, b, api.MaxBook)
	}
}

func TestP11Knots(t *testing.T) {
	for _, c := range []struct {
		tunes []string
		want  []string
	}{
		{nil, []string{""}},
		{[]string{""}, []string{""}},
		{[]string{"a"}, []string{"", "a"}},
		{[]string{"abcdefghabcd"}, []string{"", "abcdefghabcd"}},
		{[]string{"h", "a"}, []string{"", "a", "h"}},
		{[]string{"ab", "a", "abc"}, []string{"", "a", "ab", "abc"}},
		{[]string{"abc", "abd"}, []string{"", "ab", "abc", "abd"}},
		{[]string{"abc", "abd", "a", "h"}, []string{"", "a", "ab", "abc", "abd", "h"}},
		{[]string{"abc", "abd", "h"}, []string{"", "ab", "abc", "abd", "h"}},
		{[]string{"aab", "abc", "abd"}, []string{"", "a", "aab", "ab", "abc", "abd"}},
		{[]string{"aaaa", "aaab", "aab", "ab"}, []string{"", "a", "aa", "aaa", "aaaa", "aaab", "aab", "ab"}},
		{[]string{"abcd", "abce", "abdf", "abdg"}, []string{"", "ab", "abc", "abcd", "abce", "abd", "abdf", "abdg"}},
		{[]string{"ab", "abcd", "abef"}, []string{"", "ab", "abcd", "abef"}},
		{[]string{"cab", "cabbb", "cabba"}, []string{"", "cab", "cabb", "cabba", "cabbb"}},
		{[]string{"gaa", "gba", "hab", "hbb"}, []string{"", "g", "gaa", "gba", "h", "hab", "hbb"}},
		{[]string{"hhhhhhhhhhhh", "hhhhhhhhhhhg"}, []string{"", "hhhhhhhhhhh", "hhhhhhhhhhhg", "hhhhhhhhhhhh"}},
	} {
		checkKnots(t, book(t, c.tunes...), c.want...)
		slices.Reverse(c.tunes)
		checkKnots(t, book(t, c.tunes...), c.want...)
	}
}

func TestP11KnotsGoWithTheirTunes(t *testing.T) {
	b := book(t, "abc", "abd", "a", "h")
	checkDrop(t, b, "a", true, api.OK)
	checkKnots(t, b, "", "ab", "abc", "abd", "h")
	checkDrop(t, b, "abc", true, api.OK)
	checkKnots(t, b, "", "abd", "h")
	checkAdd(t, b, "ab", true, api.OK)
	checkKnots(t, b, "", "ab", "abd", "h")
	checkAdd(t, b, "", true, api.OK)
	checkKnots(t, b, "", "ab", "abd", "h")
	for _, tune := range []string{"", "ab", "abd", "h"} {
		checkDrop(t, b, tune, true, api.OK)
	}
	checkKnots(t, b, "")
}

func TestP11KnotsOfAFullBook(t *testing.T) {
	list := pairs()[:api.MaxBook]
	want := append([]string{""}, list...)
	for i := range notes {
		want = append(want, notes[i:i+1])
	}
	slices.Sort(want)
	checkKnots(t, book(t, list...), want...)
}
