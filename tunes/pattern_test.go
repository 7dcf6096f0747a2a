package tunes_test

import (
	"reflect"
	"regexp"
	"strings"
	"testing"

	"tunes/api"
	"tunes/tunes"
)

// grammar is what a pattern looks like, as an expression of package regexp: brackets stand in one another
// so seldom that it can be written out.
var grammar = regexp.MustCompile("^" + grammarInside(0) + "$")

func grammarInside(depth int) string {
	atom := `[a-h.]|\[\^?(?:[a-h](?:-[a-h])?)+\]`
	if depth < 6 {
		atom += `|\(` + grammarInside(depth+1) + `\)`
	}
	return `(?:(?:` + atom + `)(?:[*+?]|\{[0-9](?:,[0-9]?)?\})?|\|)*`
}

// begins tells whether some pattern begins with the text: what is open in it can be closed in few ways.
func begins(text string) bool {
	for _, end := range []string{"", "0}", "}", "a]", "]"} {
		for depth := range 7 {
			if grammar.MatchString(text + end + strings.Repeat(")", depth)) {
				return true
			}
		}
	}
	return false
}

// wantPlace gives the place of ErrPattern, or -1 if the text is a pattern.
func wantPlace(text string) int {
	if grammar.MatchString(text) {
		return -1
	}
	place := len(text)
	for !begins(text[:place]) {
		place--
	}
	return place
}

// meaning gives an expression of package regexp for a pattern: what a pattern means, it means there too,
// as long as only notes are read. There is none, if repetitions stand too often in one another.
func meaning(pattern string) *regexp.Regexp {
	found, err := regexp.Compile("^(?:" + pattern + ")$")
	if err != nil {
		return nil
	}
	return found
}

// shortTexts gives all texts of the notes a, b and h of at most so many notes.
func shortTexts(most int) []string {
	texts := []string{""}
	for at := 0; at < len(texts); at++ {
		if len(texts[at]) < most {
			texts = append(texts, texts[at]+"a", texts[at]+"b", texts[at]+"h")
		}
	}
	return texts
}

// checkMeaning checks that the table accepts just what the pattern means.
func checkMeaning(t *testing.T, d *dice, pattern string, table api.Table, texts []string) {
	t.Helper()
	checkLeast(t, table)
	want := meaning(pattern)
	if want == nil {
		return
	}
	for range 60 {
		var long []byte
		for range d.roll(20) {
			long = append(long, "abcdefghabhab"[d.roll(13)])
		}
		texts = append(texts, string(long))
	}
	for _, text := range texts {
		if accepts, e := tunes.Run(table, text); e != api.OK || accepts != want.MatchString(text) {
			t.Fatalf("P8: the table of %q: %q: %v, %d, want %v", pattern, text, accepts, e, !accepts)
		}
	}
}

// backward finds a span of notes that goes backward, of the notes a, b and h, in what is a pattern.
var backward = regexp.MustCompile("b-a|h-a|h-b")

// checkText checks Compile at any text that is not too long, and the size of which is not too great.
func checkText(t *testing.T, d *dice, text string, texts []string) {
	t.Helper()
	if place := wantPlace(text); place >= 0 {
		checkRefused(t, text, api.MaxStates, api.ErrPattern, place)
	} else if span := backward.FindStringIndex(text); span != nil {
		checkRefused(t, text, api.MaxStates, api.ErrSpan, span[0])
	} else {
		checkMeaning(t, d, text, compiled(t, text), texts)
	}
}

func TestP7AllShortTexts(t *testing.T) {
	d := dice(3)
	texts := shortTexts(4)
	signs := "abh.()[]^-{}02,|*?x"
	var all []string
	for i := 0; i < 1+19+19*19+19*19*19; i++ {
		text := ""
		for rest := i; rest > 0; rest = (rest - 1) / 19 {
			text += string(signs[(rest-1)%19])
		}
		all = append(all, text)
	}
	for _, text := range all {
		checkText(t, &d, text, texts)
	}
	// Longer ones begin and end as a set or a mark does.
	for _, text := range all[:1+19+19*19] {
		checkText(t, &d, "["+text+"]", texts)
		checkText(t, &d, "[^b"+text+"]", texts)
		checkText(t, &d, "(a|"+text, texts)
		checkText(t, &d, "((((("+text+"a)))))", texts)
		checkText(t, &d, "a{"+text+"}", texts)
		checkText(t, &d, "(ab){1"+text, texts)
	}
}

// maker makes patterns, and tells their sizes and the places of spans that go backward.
type maker struct {
	dice
	text  string
	spans []int
	wrong bool // whether spans may go backward
}

func (m *maker) pattern(depth int) int {
	size := m.sequence(depth)
	for m.roll(4) == 0 {
		m.text += "|"
		size += m.sequence(depth)
	}
	return size
}

func (m *maker) sequence(depth int) int {
	size := 0
	for m.roll(4) > 0 {
		size += m.item(depth)
	}
	return size
}

func (m *maker) item(depth int) int {
	size := m.atom(depth)
	least, most := m.span(5)
	few, many := string("01239"[least]), string("01239"[most])
	switch m.roll(12) {
	case 0:
		m.text += "*"
		return size
	case 1:
		m.text += "?"
		return size
	case 2:
		m.text += "+"
		return size * 2
	case 3:
		m.text += "{" + few + "}"
		return size * []int{0, 1, 2, 3, 9}[least]
	case 4:
		m.text += "{" + few + ",}"
		return size * []int{1, 2, 3, 4, 10}[least]
	case 5:
		if most < least {
			m.spans = append(m.spans, len(m.text)+1)
		}
		m.text += "{" + few + "," + many + "}"
		return size * []int{0, 1, 2, 3, 9}[most]
	}
	return size
}

// span gives two numbers, the first at most the second, unless spans may go backward.
func (m *maker) span(sides int) (int, int) {
	one := m.roll(sides)
	two := m.roll(sides)
	if two < one && !m.wrong {
		return two, one
	}
	return one, two
}

func (m *maker) atom(depth int) int {
	sort := m.roll(10)
	if sort < 3 && depth < 6 {
		m.text += "("
		size := m.pattern(depth + 1)
		m.text += ")"
		return size
	}
	if sort == 4 {
		m.text += "["
		if m.roll(2) == 0 {
			m.text += "^"
		}
		for range 1 + m.roll(3) {
			m.part()
		}
		m.text += "]"
		return 1
	}
	m.text += string("aabbhc."[m.roll(7)])
	return 1
}

func (m *maker) part() {
	from, to := m.span(8)
	if m.roll(2) == 0 {
		m.text += string("abcdefgh"[from])
		return
	}
	if to < from {
		m.spans = append(m.spans, len(m.text))
	}
	m.text += string("abcdefgh"[from]) + "-" + string("abcdefgh"[to])
}

func TestP7AndP8MadePatterns(t *testing.T) {
	m := maker{dice: 5}
	texts := shortTexts(5)
	seen := make([]int, 11)
	for i := range 6000 {
		m.text, m.spans, m.wrong = "", nil, i%8 == 0
		size := m.pattern(0)
		table, e, place := tunes.Compile(m.text, api.MaxStates)
		want, at := api.OK, 0
		if len(m.text) > api.MaxPattern {
			want = api.ErrLong
		} else if len(m.spans) > 0 {
			want, at = api.ErrSpan, m.spans[0]
		} else if size > api.MaxSize {
			want = api.ErrSize
		} else if e == api.ErrBudget {
			want = e
		}
		if e != want || place != at || isNothing(table) != (e != api.OK) {
			t.Fatalf("P7: Compile(%q) = %v, %d, %d, want %d, %d", m.text, table, e, place, want, at)
		}
		seen[e]++
		if e == api.OK {
			checkMeaning(t, &m.dice, m.text, table, texts)
			states := len(table.Accept)
			again, e, _ := tunes.Compile(m.text, states)
			if e != api.OK || !reflect.DeepEqual(again, table) {
				t.Fatalf("P8: Compile(%q, %d) = %v, %d, want %v", m.text, states, again, e, table)
			}
			if states > 1 {
				checkRefused(t, m.text, states-1, api.ErrBudget, 0)
			}
		}
	}
	if seen[api.OK] < 1000 || seen[api.ErrLong] < 100 || seen[api.ErrSpan] < 50 || seen[api.ErrSize] < 100 {
		t.Errorf("too few of some answers: %v", seen)
	}
}

func TestP7DamagedPatterns(t *testing.T) {
	m := maker{dice: 7}
	signs := "ah.()[]^-{}09,|*+?x "
	for range 6000 {
		m.text = ""
		m.pattern(0)
		for range 1 + m.roll(2) {
			at := m.roll(len(m.text) + 1)
			rest := m.text[min(len(m.text), at+m.roll(3)):]
			m.text = m.text[:at] + string(signs[m.roll(len(signs))]) + rest
		}
		if len(m.text) > api.MaxPattern {
			continue
		}
		if place := wantPlace(m.text); place >= 0 {
			checkRefused(t, m.text, m.roll(42), api.ErrPattern, place)
		} else if _, e, _ := tunes.Compile(m.text, api.MaxStates); e == api.ErrPattern {
			t.Errorf("P7: %q is a pattern", m.text)
		}
	}
}

// residues tells how many different things may still come behind the texts, which is a number that the
// states of no table of the pattern fall short of.
func residues(want *regexp.Regexp, texts []string) int {
	kinds := map[string]bool{}
	for _, text := range texts {
		var kind strings.Builder
		for _, more := range texts {
			if want.MatchString(text + more) {
				kind.WriteByte('1')
			} else {
				kind.WriteByte('0')
			}
		}
		kinds[kind.String()] = true
	}
	return len(kinds)
}

func TestP8WhatIsAboveTheBudget(t *testing.T) {
	var texts []string
	for _, text := range shortTexts(6) {
		if !strings.Contains(text, "h") {
			texts = append(texts, text)
		}
	}
	for _, pattern := range []string{"[ab]*a[ab]{5}", "(a|b|h)*a.{5}", ".*a.{5}b?", "(.*a.{5})?"} {
		if least := residues(meaning(pattern), texts); least <= api.MaxStates {
			t.Fatalf("%q needs only %d states", pattern, least)
		}
		checkRefused(t, pattern, api.MaxStates, api.ErrBudget, 0)
	}
}
