package tunes_test

import (
	"fmt"
	"reflect"
	"strings"
	"testing"

	"tunes/api"
	"tunes/tunes"
)

const notes = "abcdefgh"

// near gives the table of a tune, and fails if there is none.
func near(t *testing.T, tune string, distance int) api.Table {
	t.Helper()
	table, e := tunes.Near(tune, distance, api.MaxStates)
	if e != api.OK {
		t.Fatalf("P9: Near(%q, %d) = %v, %d, want a table", tune, distance, table, e)
	}
	return table
}

func checkNotNear(t *testing.T, tune string, distance, budget int, want api.Errno) {
	t.Helper()
	table, e := tunes.Near(tune, distance, budget)
	if len(tune) > 100 {
		tune = tune[:100] + "..."
	}
	checkNothing(t, fmt.Sprintf("P9: Near(%q, %d, %d)", tune, distance, budget), table, e, want)
}

func TestP9KnownTables(t *testing.T) {
	for _, c := range []struct {
		tune     string
		distance int
		want     api.Table
	}{
		{"", 0, rows("10", "11111111", "11111111")},
		{"", 1, rows("110", "11111111", "22222222", "22222222")},
		{"", 2, rows("1110", "11111111", "22222222", "33333333", "33333333")},
		{"a", 0, rows("010", "12222222", "22222222", "22222222")},
		{"h", 0, rows("001", "11111112", "11111111", "11111111")},
		{"a", 1, rows("11110", "12222222", "33333333", "34444444", "44444444", "44444444")},
		{"ba", 0, rows("0001", "12111111", "11111111", "31111111", "11111111")},
	} {
		if got := near(t, c.tune, c.distance); !reflect.DeepEqual(got, c.want) {
			t.Errorf("P9: Near(%q, %d) = %v, want %v", c.tune, c.distance, got, c.want)
		}
	}
}

func TestP9WhatPatternsMeanToo(t *testing.T) {
	for _, c := range []struct {
		tune     string
		distance int
		pattern  string
	}{
		{"", 0, ""}, {"", 1, ".?"}, {"", 2, ".?.?"}, {"a", 0, "a"}, {"a", 1, ".a|a.|.?"}, {"a", 2, "(a.|.a).|..a|.?.?"}, {"h", 1, ".h|h.|.?"},
		{"aa", 1, "a.?a|.aa?|aa?.?"}, {"ab", 1, "(.a|a.)b|ab?.?|.?b"}, {"abcdefghab", 0, "abcdefghab"},
	} {
		if got, want := near(t, c.tune, c.distance), compiled(t, c.pattern); !reflect.DeepEqual(got, want) {
			t.Errorf("P9: Near(%q, %d) = %v, want what Compile(%q) is: %v", c.tune, c.distance, got, c.pattern, want)
		}
	}
}

func TestP9WhatIsAccepted(t *testing.T) {
	long := strings.Repeat("a", api.MaxRun)
	for _, c := range []struct {
		tune     string
		distance int
		near     []string
		far      []string
	}{
		{"ab", 1, []string{"ab", "b", "a", "cab", "aab", "abb", "ah", "hb", "ahb", "abh"}, []string{"", "ba", "c", "baba", "cabc", "hh", "aabb", long}},
		{"ab", 2, []string{"", "c", "ba", "hh", "cabc", "ccab", "abcc", "hhb", "cb"}, []string{"ccc", "bbbbb", "ababa", "cacbc", long}},
		{"abcdefgha", 1, []string{"abcdefgh", "bcdefgha", "abcdefghab", "habcdefgha", "abcddefgha", "abcdefghh"}, []string{"", "bcdefgh", "abdcefgha", "habcdefgh", "abcdefghabc"}},
		{"aaaaaaaaaaaa", 2, []string{long[:10], long[:11], long[:12], long[:13], long[:14], "haaaaahaaaaa", "haaaaaaaaaaaah"}, []string{"", long[:9], long[:15], "hhhaaaaaaaaa", "haaaaahaaaaahaaaa", long}},
		{"abcdefghabcd", 0, []string{"abcdefghabcd"}, []string{"", "abcdefghabc", "abcdefghabcda", "bbcdefghabcd", "abcdefghabcdabcdefghabcd"}},
	} {
		table := near(t, c.tune, c.distance)
		for _, text := range c.near {
			if accepts, e := tunes.Run(table, text); !accepts || e != api.OK {
				t.Errorf("P9: Near(%q, %d): %q: %v, %d, want true", c.tune, c.distance, text, accepts, e)
			}
		}
		for _, text := range c.far {
			if accepts, e := tunes.Run(table, text); accepts || e != api.OK {
				t.Errorf("P9: Near(%q, %d): %.30q: %v, %d, want false", c.tune, c.distance, text, accepts, e)
			}
		}
	}
}

// changed gives all texts that one change makes of the text.
func changed(text string) []string {
	var out []string
	for i := 0; i <= len(text); i++ {
		for _, n := range notes {
			out = append(out, text[:i]+string(n)+text[i:])
			if i < len(text) {
				out = append(out, text[:i]+string(n)+text[i+1:])
			}
		}
		if i < len(text) {
			out = append(out, text[:i]+text[i+1:])
		}
	}
	return out
}

// nearby gives all texts that at most so many changes make of the tune.
func nearby(tune string, changes int) []string {
	met := map[string]bool{tune: true}
	texts := []string{tune}
	from := 0
	for range changes {
		to := len(texts)
		for ; from < to; from++ {
			for _, text := range changed(texts[from]) {
				if !met[text] {
					met[text] = true
					texts = append(texts, text)
				}
			}
		}
	}
	return texts
}

// kinds numbers what may come behind a text: by the kinds of what comes behind each note, and whether
// nothing may. The number 0 is for: nothing is right any more.
type kinds map[[api.Notes + 1]int]int

func (k kinds) number(ends []string) int {
	if len(ends) == 0 {
		return 0
	}
	var kind [api.Notes + 1]int
	var behind [api.Notes][]string
	for _, end := range ends {
		if end == "" {
			kind[api.Notes] = 1
		} else {
			n := end[0] - 'a'
			behind[n] = append(behind[n], end[1:])
		}
	}
	for n := range behind {
		kind[n] = k.number(behind[n])
	}
	if k[kind] == 0 {
		k[kind] = len(k) + 1
	}
	return k[kind]
}

// statesFor gives how many states the least table that accepts just these texts has: one for each kind,
// and one from which nothing is accepted, since the texts are not without end.
func statesFor(texts []string) int {
	k := kinds{}
	k.number(texts)
	return len(k) + 1
}

// accepted gives how many texts of at most so many notes a table accepts, and whether it accepts longer ones.
func accepted(m api.Table, most int) (int, bool) {
	ways := make([]int, len(m.Accept))
	ways[0] = 1
	total := 0
	// A table that accepts a longer text accepts one that is longer by at most as many notes as it has states.
	for length := 0; length <= most+len(m.Accept); length++ {
		next := make([]int, len(m.Accept))
		for i, count := range ways {
			if count > 0 && m.Accept[i] {
				if length > most {
					return total, true
				}
				total += count
			}
			for _, to := range m.Next[i] {
				next[to] = min(next[to]+count, 1<<50)
			}
		}
		ways = next
	}
	return total, false
}

// checkNear checks all that is promised of a tune and a distance, and gives the number of states.
func checkNear(t *testing.T, tune string, distance int) int {
	t.Helper()
	texts := nearby(tune, distance)
	states := statesFor(texts)
	checkNotNear(t, tune, distance, min(states-1, api.MaxStates), api.ErrBudget)
	checkNotNear(t, tune, distance, 1, api.ErrBudget)
	if states > api.MaxStates {
		return states
	}
	table, e := tunes.Near(tune, distance, states)
	if e != api.OK {
		t.Fatalf("P9: Near(%q, %d, %d): %d, want a table", tune, distance, states, e)
	}
	checkLeast(t, table)
	if again := near(t, tune, distance); !reflect.DeepEqual(again, table) {
		t.Fatalf("P9: Near(%q, %d) is %v at the budget %d, %v at %d", tune, distance, table, states, again, api.MaxStates)
	}
	for _, text := range texts {
		if accepts, e := tunes.Run(table, text); !accepts || e != api.OK {
			t.Fatalf("P9: Near(%q, %d): %q: %v, %d, want true", tune, distance, text, accepts, e)
		}
	}
	if total, longer := accepted(table, len(tune)+distance); total != len(texts) || longer {
		t.Fatalf("P9: Near(%q, %d) accepts %d texts, longer ones: %v; want %d, false", tune, distance, total, longer, len(texts))
	}
	return states
}

func TestP9AllShortTunes(t *testing.T) {
	for _, tune := range shortTexts(4) {
		for distance := range api.MaxDistance + 1 {
			checkNear(t, tune, distance)
		}
	}
}

func TestP9MadeTunes(t *testing.T) {
	d := dice(11)
	for range 150 {
		some := 1 + d.roll(8)
		tune := ""
		for range d.roll(api.MaxTune + 1) {
			tune += string(notes[(d.roll(some)*3)%8])
		}
		for distance := range api.MaxDistance {
			checkNear(t, tune, distance)
		}
		if len(tune) < 6 {
			checkNear(t, tune, api.MaxDistance)
		}
	}
}

func TestP9JustAsManyStatesAsTheBudget(t *testing.T) {
	for _, c := range []struct {
		tune     string
		distance int
		states   int
	}{
		{"", 0, 2}, {"", 1, 3}, {"", 2, 4}, {"a", 0, 3}, {"a", 1, 5}, {"a", 2, 7}, {"abc", 1, 13}, {"abc", 2, 25},
		{"abcdefghabcd", 0, 14}, {"aaaaaaaaaaaa", 0, 14}, {"aaaaaaaaaaaa", 1, 27}, {"aaaaaaaaaaaa", 2, 40},
		{"baaaaaaaaaaa", 1, 39}, {"abcdefghab", 1, 41}, {"abcdefghabcd", 1, 49},
	} {
		if states := checkNear(t, c.tune, c.distance); states != c.states {
			t.Errorf("P9: Near(%q, %d) has %d states, want %d", c.tune, c.distance, states, c.states)
		}
	}
	for _, tune := range []string{"aaaaaaaaaaab", "baaaaaaaaaaa", "abcdefghabcd", "abababababab", "hgfedcbahgfe"} {
		if states := checkNear(t, tune, api.MaxDistance); states <= api.MaxStates {
			t.Errorf("P9: Near(%q, 2) has %d states", tune, states)
		}
	}
}

func TestP9WhatIsNoTune(t *testing.T) {
	for i := range 256 {
		b := string([]byte{byte(i)})
		if strings.Contains(notes, b) {
			if got, want := near(t, b, 1), compiled(t, "."+b+"|"+b+".|.?"); !reflect.DeepEqual(got, want) {
				t.Errorf("P9: Near(%q, 1) = %v, want %v", b, got, want)
			}
			continue
		}
		for at := range api.MaxTune {
			tune := strings.Repeat("a", at) + b + strings.Repeat("h", api.MaxTune-1-at)
			checkNotNear(t, tune, 0, api.MaxStates, api.ErrTune)
			checkNotNear(t, tune[at:], 2, 1, api.ErrTune)
			checkNotNear(t, tune[:at+1], 1, api.MaxStates, api.ErrTune)
		}
	}
	for _, tune := range []string{"A", "ab ", " ab", "a\n", "é", "a*", ".", "abcdefghi", "1"} {
		checkNotNear(t, tune, 1, api.MaxStates, api.ErrTune)
	}
	for _, length := range []int{13, 14, 256, 256 + 12, 1000, 1 << 16, 1<<16 + 1, 5000000} {
		for _, b := range []string{"a", "h", "i", "\x00"} {
			checkNotNear(t, strings.Repeat(b, length), 0, api.MaxStates, api.ErrTune)
		}
	}
	near(t, "abcdefghabcd", 0)
	checkNotNear(t, "abcdefghabcde", 0, api.MaxStates, api.ErrTune)
}

func TestP9WrongNumbers(t *testing.T) {
	for _, tune := range []string{"", "a", "abc", "abcdefghabcd"} {
		for _, wrong := range []int{-1 << 63, -1 << 32, -3, -2, -1, 3, 4, 12, 1 << 32, 1<<32 + 1, 1 << 62, 1<<63 - 1} {
			for _, budget := range []int{-1, 0, 1, 2, api.MaxStates, api.MaxStates + 1} {
				checkNotNear(t, tune, wrong, budget, api.ErrArg)
			}
		}
		for _, wrong := range []int{-1 << 63, -1 << 32, -40, -1, 0, 41, 42, 1 << 32, 1<<32 + 1, 1 << 62, 1<<63 - 1} {
			for distance := range api.MaxDistance + 1 {
				checkNotNear(t, tune, distance, wrong, api.ErrArg)
			}
		}
	}
}

func TestP9SeveralErrorsAtOnce(t *testing.T) {
	for _, tune := range []string{"i", "abcdefghabcde", "a b", strings.Repeat("\xff", 13)} {
		for _, distance := range []int{-1 << 63, -1, 0, 2, 3, 1<<63 - 1} {
			for _, budget := range []int{-1 << 63, 0, 1, 40, 41, 1<<63 - 1} {
				checkNotNear(t, tune, distance, budget, api.ErrTune)
			}
		}
	}
	checkNotNear(t, "abcdefghabcd", 3, 1, api.ErrArg)
	checkNotNear(t, "abcdefghabcd", -1, 0, api.ErrArg)
	checkNotNear(t, "abcdefghabcd", 2, 0, api.ErrArg)
	checkNotNear(t, "abcdefghabcd", 2, 41, api.ErrArg)
	checkNotNear(t, "abcdefghabcd", 2, 40, api.ErrBudget)
	checkNotNear(t, "", 0, 1, api.ErrBudget)
}
