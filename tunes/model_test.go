package tunes_test

import (
	"slices"
	"sort"
	"testing"

	"tunes/api"
	"tunes/tunes"
)

// model is a book as the document says it, kept in another way: a heap of tunes that is put in order at
// each question.
type model struct {
	tunes   map[string]bool
	cursors map[int]*modelCursor
}

type modelCursor struct {
	table api.Table
	given []string
}

// ahead is the order of the document, note by note.
func ahead(one, two string) bool {
	for i := range min(len(one), len(two)) {
		if one[i] != two[i] {
			return one[i] < two[i]
		}
	}
	return len(one) < len(two)
}

func inOrder(texts map[string]bool) []string {
	var list []string
	for text := range texts {
		list = append(list, text)
	}
	sort.Slice(list, func(i, j int) bool { return ahead(list[i], list[j]) })
	return list
}

func isTune(text string) bool {
	for i := range len(text) {
		if !slices.Contains([]byte(notes), text[i]) {
			return false
		}
	}
	return len(text) <= api.MaxTune
}

func (m *model) add(tune string) (bool, api.Errno) {
	switch {
	case !isTune(tune):
		return false, api.ErrTune
	case m.tunes[tune]:
		return false, api.OK
	case len(m.tunes) == api.MaxBook:
		return false, api.ErrFull
	}
	m.tunes[tune] = true
	return true, api.OK
}

func (m *model) drop(tune string) (bool, api.Errno) {
	if !isTune(tune) {
		return false, api.ErrTune
	}
	had := m.tunes[tune]
	delete(m.tunes, tune)
	return had, api.OK
}

func (m *model) has(tune string) (bool, api.Errno) {
	if !isTune(tune) {
		return false, api.ErrTune
	}
	return m.tunes[tune], api.OK
}

// knots takes each beginning of each tune, with the notes that come behind it.
func (m *model) knots() []string {
	behind := map[string]map[byte]bool{}
	knots := map[string]bool{"": true}
	for tune := range m.tunes {
		knots[tune] = true
		for i := range len(tune) {
			if behind[tune[:i]] == nil {
				behind[tune[:i]] = map[byte]bool{}
			}
			behind[tune[:i]][tune[i]] = true
		}
	}
	for text, ways := range behind {
		if len(ways) > 1 {
			knots[text] = true
		}
	}
	return inOrder(knots)
}

func (m *model) open(t api.Table) (int, api.Errno) {
	if len(m.cursors) == api.MaxCursors {
		return 0, api.ErrFull
	}
	number := 0
	for m.cursors[number] != nil {
		number++
	}
	m.cursors[number] = &modelCursor{table: copied(t)}
	return number, api.OK
}

func (m *model) close(number int) api.Errno {
	if m.cursors[number] == nil {
		return api.ErrCursor
	}
	delete(m.cursors, number)
	return api.OK
}

// reads tells whether the table accepts the tune.
func reads(t api.Table, tune string) bool {
	state := 0
	for i := range len(tune) {
		state = t.Next[state][tune[i]-'a']
	}
	return t.Accept[state]
}

func (m *model) next(number, limit int) ([]string, bool, api.Errno) {
	c := m.cursors[number]
	if c == nil {
		return nil, false, api.ErrCursor
	}
	if limit < 1 || limit > api.MaxLimit {
		return nil, false, api.ErrArg
	}
	var left []string
	for _, tune := range inOrder(m.tunes) {
		behind := len(c.given) == 0 || ahead(c.given[len(c.given)-1], tune)
		if behind && reads(c.table, tune) {
			left = append(left, tune)
		}
	}
	given := left[:min(limit, len(left))]
	c.given = append(c.given, given...)
	return given, len(given) == len(left), api.OK
}

// tune makes a tune out of few notes, so that the same ones come often, and now and then a text that is none.
func (d *dice) tune() string {
	if d.roll(20) == 0 {
		return []string{"i", "abA", "aaaaaaaaaaaaa", "ab\n"}[d.roll(4)]
	}
	length := d.roll(5)
	if d.roll(8) == 0 {
		length = api.MaxTune - d.roll(3)
	}
	var tune []byte
	for range length {
		tune = append(tune, "abh"[d.roll(3)])
	}
	return string(tune)
}

// both is a book beside its model.
type both struct {
	b *tunes.Book
	m *model
}

// step makes one call on the book and on its model. Where it is growing, tunes are added more often.
func (s both) step(t *testing.T, d *dice, growing bool) {
	t.Helper()
	switch d.roll(10) {
	case 0, 1, 2, 3:
		tune := d.tune()
		if growing || d.roll(2) == 0 {
			want, e := s.m.add(tune)
			checkAdd(t, s.b, tune, want, e)
			return
		}
		want, e := s.m.drop(tune)
		checkDrop(t, s.b, tune, want, e)
	case 4:
		tune := d.tune()
		want, e := s.m.drop(tune)
		checkDrop(t, s.b, tune, want, e)
	case 5:
		tune := d.tune()
		want, e := s.m.has(tune)
		checkHas(t, s.b, tune, want, e)
	case 6:
		table := d.table(1+d.roll(6), d.roll(2) == 0)
		want, e := s.m.open(table)
		checkOpen(t, s.b, table, want, e)
	case 7:
		number := d.roll(2*api.MaxCursors) - 1
		checkClose(t, s.b, number, s.m.close(number))
	default:
		number := d.roll(api.MaxCursors+2) - 1
		limit := []int{0, 1, 1, 2, 2, 3, 5, api.MaxLimit, api.MaxLimit + 1}[d.roll(9)]
		want, all, e := s.m.next(number, limit)
		if e != api.OK {
			checkNoNext(t, s.b, number, limit, e)
			return
		}
		checkNext(t, s.b, number, limit, all, want...)
	}
}

func TestP10ToP13MadeCalls(t *testing.T) {
	d := dice(13)
	full := 0
	for range 60 {
		books := make([]both, 2)
		for i := range books {
			books[i] = both{b: tunes.New(), m: &model{tunes: map[string]bool{}, cursors: map[int]*modelCursor{}}}
		}
		for call := range 1600 {
			s := books[d.roll(2)]
			s.step(t, &d, call/400%2 == 0)
			if len(s.m.tunes) == api.MaxBook {
				full++
			}
			// Both are looked at, since what is done to the one must not change the other.
			for _, s := range books {
				checkCount(t, s.b, len(s.m.tunes))
				if call%10 == 0 {
					checkKnots(t, s.b, s.m.knots()...)
				}
			}
		}
		for _, s := range books {
			for tune := range s.m.tunes {
				checkHas(t, s.b, tune, true, api.OK)
			}
		}
	}
	if full < 1000 {
		t.Errorf("only %d calls found a full book", full)
	}
}
