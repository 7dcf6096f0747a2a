package table_test

import (
	"reflect"
	"testing"

	"tunes/api"
	"tunes/table"
)

// line makes a wide table of so many states: the note a leads on by one, from the last to the state back,
// and all other notes stay. Only the last state accepts, or every one.
func line(states int, back int, all bool) *table.Wide {
	w := &table.Wide{}
	for i := range states {
		var row [api.Notes]int
		for j := range row {
			row[j] = i
		}
		row[0] = i + 1
		if i == states-1 {
			row[0] = back
		}
		w.Add(all || i == states-1, row)
	}
	return w
}

func TestLeastOfAWideTable(t *testing.T) {
	one := api.Table{Accept: []bool{true}, Next: [][]int{make([]int, api.Notes)}}
	for _, states := range []int{1, 2, 40, 41, 2000} {
		got, e := line(states, 0, true).Least(1)
		if e != api.OK || !reflect.DeepEqual(got, one) {
			t.Errorf("%d states: %v, %d, want %v", states, got, e, one)
		}
	}
	for _, states := range []int{2, 39, 40} {
		got, e := line(states, states-1, false).Least(states)
		if e != api.OK || len(got.Accept) != states || got.Accept[0] || !got.Accept[states-1] {
			t.Errorf("%d states: %v, %d", states, got, e)
		}
	}
}

func TestLeastOfAWideTableRefuses(t *testing.T) {
	skips := &table.Wide{}
	skips.Add(true, [api.Notes]int{0, 2, 1})
	skips.Add(true, [api.Notes]int{})
	skips.Add(true, [api.Notes]int{})
	alone := line(2, 0, false)
	alone.Add(true, [api.Notes]int{2, 2, 2, 2, 2, 2, 2, 2})
	for i, c := range []struct {
		w      *table.Wide
		budget int
		want   api.Errno
	}{
		{&table.Wide{}, 1, api.ErrTable}, // no state
		{&table.Wide{}, 0, api.ErrTable},
		{line(3, 3, true), 40, api.ErrTable},  // a state is missing
		{line(3, 4, true), 40, api.ErrTable},  // no state's number
		{line(3, -1, true), 40, api.ErrTable}, // no number at all
		{skips, 40, api.ErrTable},             // not numbered as one comes to them
		{alone, 40, api.ErrTable},             // one does not come to the last
		{line(3, 0, true), 0, api.ErrArg},
		{line(3, 0, true), api.MaxStates + 1, api.ErrArg},
		{line(3, 0, false), 2, api.ErrBudget},
		{line(41, 0, false), 40, api.ErrBudget},
		{line(2000, 0, false), 40, api.ErrBudget},
	} {
		got, e := c.w.Least(c.budget)
		if e != c.want || got.Accept != nil || got.Next != nil {
			t.Errorf("%d: %v, %d, want nothing and %d", i, got, e, c.want)
		}
	}
}
