package tunes_test

import (
	"reflect"
	"slices"
	"testing"

	"tunes/api"
	"tunes/tunes"
)

// roomy gives the same table with spare room behind each list, and something in all of it.
func roomy(t api.Table) api.Table {
	r := copied(t)
	for i, row := range r.Next {
		r.Next[i] = append(row, -7, -7, -7)[:len(row)]
	}
	r.Accept = append(r.Accept, true, false, true)[:len(t.Accept)]
	r.Next = append(r.Next, []int{-7}, nil, []int{-7, -7})[:len(t.Next)]
	return r
}

// spread gives all that stands in the lists of a table and in their spare room.
func spread(t api.Table) api.Table {
	whole := api.Table{Accept: t.Accept[:cap(t.Accept)], Next: append([][]int(nil), t.Next[:cap(t.Next)]...)}
	for i, row := range whole.Next {
		whole.Next[i] = row[:cap(row)]
	}
	return copied(whole)
}

// calls makes all calls, and gives the tables that come out.
func calls(one, two api.Table) []api.Table {
	tunes.Run(one, "abc")
	tunes.First(one)
	least, _ := tunes.Least(one)
	not, _ := tunes.Not(one)
	out := []api.Table{least, not}
	for how := api.And; how <= api.Differ; how++ {
		joined, _ := tunes.Join(one, two, how, api.MaxStates)
		out = append(out, joined)
	}
	for _, pattern := range []string{"", ".*", "[^a-h]", "a(b|c)*", "[ab]*a[ab]{4}"} {
		table, _, _ := tunes.Compile(pattern, api.MaxStates)
		out = append(out, table)
	}
	for _, tune := range []string{"", "ab", "abc"} {
		for distance := range api.MaxDistance + 1 {
			table, _ := tunes.Near(tune, distance, api.MaxStates)
			out = append(out, table)
		}
	}
	return out
}

func allCopied(tables []api.Table) []api.Table {
	var out []api.Table
	for _, t := range tables {
		out = append(out, copied(t))
	}
	return out
}

func TestP2WhatIsHandedInIsNotWrittenInto(t *testing.T) {
	one := roomy(counter(5, 0, true, false))
	two := roomy(rows("0110", "33333312", "33333333", "12333333", "33333333"))
	oneBefore := spread(one)
	twoBefore := spread(two)
	calls(one, two)
	calls(one, one)
	tunes.Join(one, two, 4, 0)
	tunes.Join(one, two, api.Or, 1)
	tunes.Run(one, "abi")
	b := book(t, "", "a", "aa", "abc", "h")
	for number := range api.MaxCursors {
		checkOpen(t, b, one, number, api.OK)
		b.Next(number, 1)
	}
	b.Open(two)
	b.Next(0, 0)
	b.Close(0)
	if !reflect.DeepEqual(spread(one), oneBefore) || !reflect.DeepEqual(spread(two), twoBefore) {
		t.Errorf("P2: the tables have become %v and %v", spread(one), spread(two))
	}
}

func TestP2WhatIsHandedInIsNotKept(t *testing.T) {
	one := counter(5, 0, true, false)
	two := rows("0110", "33333312", "33333333", "12333333", "33333333")
	out := calls(one, two)
	before := allCopied(out)
	for _, table := range []api.Table{one, two} {
		for i, row := range table.Next {
			table.Accept[i] = !table.Accept[i]
			for j := range row {
				row[j] = 0
			}
			table.Next[i] = nil
		}
	}
	if !reflect.DeepEqual(out, before) {
		t.Errorf("P2: what came out has become %v, was %v", out, before)
	}
}

func TestP2RowsThatAreOneListAreATable(t *testing.T) {
	row := []int{1, 2, 2, 2, 2, 2, 2, 2}
	shared := api.Table{Accept: []bool{false, true, false}, Next: [][]int{row, row, row}}
	apart := copied(shared)
	if got, want := calls(shared, shared), calls(apart, apart); !reflect.DeepEqual(got, want) {
		t.Errorf("P2: %v, want %v", got, want)
	}
}

// places tells of the memory of lists whether it stands in more than one of them.
type places struct {
	bools map[*bool]bool
	rows  map[*[]int]bool
	ints  map[*int]bool
	twice bool
}

// take takes up the memory of all lists of a table, with their spare room.
func (p *places) take(t api.Table) {
	accept := t.Accept[:cap(t.Accept)]
	for i := range accept {
		p.twice = p.twice || p.bools[&accept[i]]
		p.bools[&accept[i]] = true
	}
	next := t.Next[:cap(t.Next)]
	for i := range next {
		p.twice = p.twice || p.rows[&next[i]]
		p.rows[&next[i]] = true
		row := next[i][:cap(next[i])]
		for j := range row {
			p.twice = p.twice || p.ints[&row[j]]
			p.ints[&row[j]] = true
		}
	}
}

// scrawl writes into all lists of a table and into their spare room.
func scrawl(t api.Table) {
	accept := t.Accept[:cap(t.Accept)]
	for i := range accept {
		accept[i] = !accept[i]
	}
	next := t.Next[:cap(t.Next)]
	for i := range next {
		row := next[i][:cap(next[i])]
		for j := range row {
			row[j] = -9
		}
		next[i] = nil
	}
}

func TestP2WhatComesOutIsTheCallers(t *testing.T) {
	for _, one := range []api.Table{every(), none(), odd(), counter(5, 0, true, false), counter(api.MaxStates, 2, true, false)} {
		out := append(calls(one, every()), calls(one, every())...)
		p := places{bools: map[*bool]bool{}, rows: map[*[]int]bool{}, ints: map[*int]bool{}}
		p.take(one)
		for _, table := range out {
			p.take(table)
		}
		if p.twice {
			t.Errorf("P2: lists share memory: %v", out)
		}
		before := allCopied(out)
		for _, table := range out {
			scrawl(table)
		}
		if again := append(calls(one, every()), calls(one, every())...); !reflect.DeepEqual(again, before) {
			t.Errorf("P2: the answers have become %v, were %v", again, before)
		}
	}
}

func TestP2AnswersHangOnTheArgumentsAlone(t *testing.T) {
	one := counter(5, 0, true, false)
	two := rows("0110", "33333312", "33333333", "12333333", "33333333")
	before := calls(one, two)
	b := book(t, "a", "ab", "h")
	d := dice(2)
	for range 50 {
		calls(d.table(6, false), d.table(6, true))
		calls(api.Table{}, d.table(40, true))
		tunes.Compile("(a|b+){3}", 1+d.roll(40))
		tunes.Compile("[a-b]{2,1}", 40)
		tunes.Compile("((a", 40)
		tunes.Near("hgfabbah", d.roll(3), 1+d.roll(40))
		tunes.Near("abx", 1, 40)
		checkOpen(t, b, one, 0, api.OK)
		b.Next(0, 2)
		checkClose(t, b, 0, api.OK)
		if again := calls(one, two); !reflect.DeepEqual(again, before) {
			t.Fatalf("P2: the answers have become %v, were %v", again, before)
		}
	}
}

func TestP2ACursorKeepsTheTableAsItWas(t *testing.T) {
	d := dice(4)
	list := pairs()[:api.MaxBook]
	for range 20 {
		table := roomy(d.table(1+d.roll(5), false))
		var want []string
		for _, tune := range list {
			if reads(table, tune) {
				want = append(want, tune)
			}
		}
		one, two := book(t, list...), book(t, list...)
		checkOpen(t, one, table, 0, api.OK)
		checkOpen(t, two, table, 0, api.OK)
		half := min(len(want), 5)
		if half > 0 {
			checkNext(t, one, 0, half, half == len(want), want[:half]...)
		}
		scrawl(table)
		for at := half; at < len(want); at++ {
			checkNext(t, one, 0, 1, at+1 == len(want), want[at])
		}
		for at := 0; at < len(want); at++ {
			checkNext(t, two, 0, 1, at+1 == len(want), want[at])
		}
		checkNext(t, one, 0, 1, true)
		checkNext(t, two, 0, 1, true)
	}
}

func TestP2ListsOfABookAreTheCallers(t *testing.T) {
	list := pairs()[:api.MaxBook]
	b := book(t, list...)
	knots := b.Knots()
	want := slices.Clone(knots)
	checkOpen(t, b, every(), 0, api.OK)
	met := map[*string]bool{}
	scrawlOver := func(out []string) {
		out = out[:cap(out)]
		for i := range out {
			if met[&out[i]] {
				t.Fatalf("P2: lists share memory: %q", out)
			}
			met[&out[i]] = true
			out[i] = "x"
		}
	}
	scrawlOver(knots)
	for at := 0; at < len(list); at += 3 {
		out, _, _ := b.Next(0, 3)
		if !slices.Equal(out, list[at:at+3]) {
			t.Fatalf("P13: Next(0, 3) = %q, want %q", out, list[at:at+3])
		}
		scrawlOver(out)
		scrawlOver(b.Knots())
		checkKnots(t, b, want...)
	}
	for _, tune := range list {
		checkHas(t, b, tune, true, api.OK)
	}
	checkCount(t, b, len(list))
	checkOpen(t, b, every(), 1, api.OK)
	checkNext(t, b, 1, api.MaxLimit, false, list[:api.MaxLimit]...)
}

func TestP2BooksDoNotChangeOneAnother(t *testing.T) {
	one, two := book(t, "a", "b"), book(t, "c")
	checkOpen(t, one, every(), 0, api.OK)
	checkNoCursor(t, two, 0)
	checkOpen(t, two, compiled(t, "[cd]"), 0, api.OK)
	checkNext(t, one, 0, 1, false, "a")
	checkNext(t, two, 0, 1, true, "c")
	checkAdd(t, two, "d", true, api.OK)
	checkDrop(t, two, "a", false, api.OK)
	checkHas(t, one, "a", true, api.OK)
	checkHas(t, one, "d", false, api.OK)
	checkKnots(t, one, "", "a", "b")
	checkKnots(t, two, "", "c", "d")
	checkClose(t, one, 0, api.OK)
	checkNext(t, two, 0, 1, true, "d")
	checkCount(t, book(t), 0)
}
