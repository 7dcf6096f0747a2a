package tunes_test

import (
	"reflect"
	"testing"

	"tunes/api"
	"tunes/tunes"
)

func checkJoin(t *testing.T, one, two api.Table, how, budget int, want api.Table, wantErr api.Errno) {
	t.Helper()
	table, e := tunes.Join(one, two, how, budget)
	if e != wantErr || !reflect.DeepEqual(table, want) {
		t.Errorf("P6: Join(%v, %v, %d, %d) = %v, %d, want %v, %d", one, two, how, budget, table, e, want, wantErr)
	}
}

// checkBudgets checks that the joined table comes at all budgets from its states on, and at no lesser.
func checkBudgets(t *testing.T, one, two api.Table, how int, want api.Table) {
	t.Helper()
	for budget := 1; budget <= api.MaxStates; budget++ {
		if budget < len(want.Accept) {
			checkJoin(t, one, two, how, budget, api.Table{}, api.ErrBudget)
		} else {
			checkJoin(t, one, two, how, budget, want, api.OK)
		}
	}
}

func TestP6Join(t *testing.T) {
	a := rows("010", "12222222", "22222222", "22222222")
	b := rows("001", "12111111", "11111111", "11111111")
	ab := rows("010", "11222222", "22222222", "22222222") // a and b, of one note each
	for _, c := range []struct {
		one, two api.Table
		how      int
		want     api.Table
	}{
		{a, b, api.And, none()}, {ab, b, api.And, b}, {a, ab, api.And, a}, {a, every(), api.And, a}, {none(), a, api.And, none()},
		{a, b, api.Or, ab}, {b, a, api.Or, ab}, {ab, b, api.Or, ab}, {a, every(), api.Or, every()}, {none(), a, api.Or, a},
		{a, b, api.Less, a}, {ab, a, api.Less, b}, {a, ab, api.Less, none()}, {every(), a, api.Less, flipped(a)}, {a, every(), api.Less, none()}, {none(), a, api.Less, none()},
		{a, b, api.Differ, ab}, {ab, a, api.Differ, b}, {a, ab, api.Differ, b}, {every(), a, api.Differ, flipped(a)}, {a, a, api.Differ, none()}, {every(), none(), api.Differ, every()},
	} {
		checkBudgets(t, c.one, c.two, c.how, c.want)
	}
}

func TestP6JoinOfMaxStates(t *testing.T) {
	most := counter(api.MaxStates, 0, false, false)
	ring := counter(api.MaxStates, 1, true, true)
	// All 1600 pairs of states are come to, and the least table is found only in as many rounds as it has states.
	checkBudgets(t, most, ring, api.And, most)
	checkBudgets(t, most, ring, api.Or, every())
	checkBudgets(t, ring, most, api.Less, flipped(most))
	checkBudgets(t, most, ring, api.Differ, flipped(most))
	checkBudgets(t, most, most, api.And, most)
	checkBudgets(t, most, most, api.Differ, none())
	// Just MaxStates states, and two more.
	fiveByEight, e := tunes.Join(counter(5, 0, true, false), counter(8, 1, true, false), api.And, api.MaxStates)
	if e != api.OK || len(fiveByEight.Accept) != 40 {
		t.Errorf("P6: five by eight: %v, %d", fiveByEight, e)
	}
	checkBudgets(t, counter(5, 0, true, false), counter(8, 1, true, false), api.And, fiveByEight)
	checkJoin(t, counter(6, 0, true, false), counter(7, 1, true, false), api.And, api.MaxStates, api.Table{}, api.ErrBudget)
	// The widest there is.
	checkJoin(t, counter(40, 0, true, false), counter(40, 1, true, false), api.And, api.MaxStates, api.Table{}, api.ErrBudget)
}

func TestP6JoinOfManyTables(t *testing.T) {
	d := dice(6)
	over := 0
	for i := range 400 {
		one := d.table(1+d.roll(9), i%2 == 0)
		two := d.table(1+d.roll(9), i%4 < 2)
		how := d.roll(4)
		size := leastSize(one, two, how)
		if size > api.MaxStates {
			over++
			checkJoin(t, one, two, how, api.MaxStates, api.Table{}, api.ErrBudget)
			continue
		}
		table, e := tunes.Join(one, two, how, api.MaxStates)
		if e != api.OK || len(table.Accept) != size {
			t.Fatalf("P6: Join(%v, %v, %d, 40) = %v, %d, want %d states", one, two, how, table, e, size)
		}
		checkLeast(t, table)
		if !meansJoin(table, one, two, how) {
			t.Fatalf("P6: Join(%v, %v, %d, 40) = %v means another thing", one, two, how, table)
		}
		checkBudgets(t, one, two, how, table)
	}
	if over < 20 || over > 380 {
		t.Errorf("the tables are ill chosen: %d of 400 above the budget", over)
	}
}

func TestP6JoinWrongNumbers(t *testing.T) {
	for _, wrong := range []int{-1, 4, 5, 1 << 32, 1<<63 - 1, -1 << 63} {
		checkJoin(t, every(), odd(), wrong, 40, api.Table{}, api.ErrArg)
	}
	for _, wrong := range []int{0, -1, 41, 1 << 32, 1<<63 - 1, -1 << 63} {
		for how := api.And; how <= api.Differ; how++ {
			checkJoin(t, every(), odd(), how, wrong, api.Table{}, api.ErrArg)
		}
	}
}
