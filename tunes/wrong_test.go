package tunes_test

import (
	"strings"
	"testing"

	"tunes/api"
	"tunes/tunes"
)

// noTables gives lists that are no table, each for one reason.
func noTables() []api.Table {
	change := func(f func(t *api.Table)) api.Table {
		t := counter(3, 0, true, false)
		f(&t)
		return t
	}
	row := make([]int, api.Notes)
	return []api.Table{
		{},
		{Accept: []bool{}, Next: [][]int{}},
		{Accept: []bool{true}},
		{Accept: []bool{true}, Next: [][]int{nil}},
		{Accept: []bool{true}, Next: [][]int{{}}},
		{Next: [][]int{row}},
		counter(api.MaxStates+1, 0, true, true),
		{Accept: make([]bool, 1<<20), Next: make([][]int, 1<<20)},
		change(func(t *api.Table) { t.Accept = t.Accept[:2] }),
		change(func(t *api.Table) { t.Accept = append(t.Accept, false) }),
		change(func(t *api.Table) { t.Next = t.Next[:2] }),
		change(func(t *api.Table) { t.Next = append(t.Next, row) }),
		change(func(t *api.Table) { t.Next[0] = t.Next[0][:7] }),
		change(func(t *api.Table) { t.Next[2] = append(t.Next[2], 0) }),
		change(func(t *api.Table) { t.Next[1] = nil }),
		change(func(t *api.Table) { t.Next[0][0] = -1 }),
		change(func(t *api.Table) { t.Next[2][7] = 3 }),
		change(func(t *api.Table) { t.Next[1][4] = 1<<63 - 1 }),
		change(func(t *api.Table) { t.Next[1][4] = -1 << 63 }),
	}
}

func isNothing(t api.Table) bool { return t.Accept == nil && t.Next == nil }

func checkNothing(t *testing.T, call string, table api.Table, e, want api.Errno) {
	t.Helper()
	if e != want || !isNothing(table) {
		t.Errorf("P1: %s = %v, %d, want nothing and %d", call, table, e, want)
	}
}

func TestP1WhatIsNoTable(t *testing.T) {
	for i, wrong := range noTables() {
		if accepts, e := tunes.Run(wrong, ""); accepts || e != api.ErrTable {
			t.Errorf("P3: %d: Run = %v, %d", i, accepts, e)
		}
		if text, found, e := tunes.First(wrong); text != "" || found || e != api.ErrTable {
			t.Errorf("P4: %d: First = %q, %v, %d", i, text, found, e)
		}
		table, e := tunes.Least(wrong)
		checkNothing(t, "Least", table, e, api.ErrTable)
		table, e = tunes.Not(wrong)
		checkNothing(t, "Not", table, e, api.ErrTable)
		for how := api.And; how <= api.Differ; how++ {
			table, e = tunes.Join(wrong, odd(), how, api.MaxStates)
			checkNothing(t, "Join", table, e, api.ErrTable)
			table, e = tunes.Join(odd(), wrong, how, api.MaxStates)
			checkNothing(t, "Join", table, e, api.ErrTable)
		}
	}
}

func TestP1SeveralErrorsAtOnce(t *testing.T) {
	for _, wrong := range noTables() {
		for _, text := range []string{"i", strings.Repeat("a", api.MaxRun+1)} {
			if accepts, e := tunes.Run(wrong, text); accepts || e != api.ErrTable {
				t.Errorf("P1: Run = %v, %d, want ErrTable", accepts, e)
			}
		}
		for _, how := range []int{-1, 0, 4} {
			for _, budget := range []int{0, 1, 41} {
				table, e := tunes.Join(wrong, odd(), how, budget)
				checkNothing(t, "Join", table, e, api.ErrTable)
				table, e = tunes.Join(odd(), wrong, how, budget)
				checkNothing(t, "Join", table, e, api.ErrTable)
				table, e = tunes.Join(wrong, wrong, how, budget)
				checkNothing(t, "Join", table, e, api.ErrTable)
			}
		}
	}
	table, e := tunes.Join(odd(), odd(), 4, 1)
	checkNothing(t, "Join", table, e, api.ErrArg)
	table, e = tunes.Join(odd(), odd(), api.And, 0)
	checkNothing(t, "Join", table, e, api.ErrArg)
	table, e = tunes.Join(odd(), odd(), api.And, 1)
	checkNothing(t, "Join", table, e, api.ErrBudget)
}
