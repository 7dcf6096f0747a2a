package table

import "tunes/api"

// Wide is a table in the making. It may have more states than MaxStates. Some text leads to each of its
// states, and they are numbered in the order in which one comes to them, as those of a least table are.
type Wide struct {
	accept []bool
	next   [][api.Notes]int
}

// Add lays one more state behind those that w has: whether it accepts, and to which state each note
// leads, which may be one that is added later.
func (w *Wide) Add(accepts bool, row [api.Notes]int) {
	w.accept = append(w.accept, accepts)
	w.next = append(w.next, row)
}

// Least gives the least table that means the same as w: ErrTable, if w is not whole or its states are not
// numbered as one comes to them; ErrArg, if the budget is none; ErrBudget, if the table has more states.
func (w *Wide) Least(budget int) (api.Table, api.Errno) {
	if !inOrder(w.next) {
		return api.Table{}, api.ErrTable
	}
	if budget < 1 || budget > api.MaxStates {
		return api.Table{}, api.ErrArg
	}
	least, fits := shrink(w, budget)
	if !fits {
		return api.Table{}, api.ErrBudget
	}
	return least, api.OK
}

// inOrder tells whether one comes to all states, and to each in its turn, so that none is missing.
func inOrder(next [][api.Notes]int) bool {
	met := 1
	for state := 0; state < len(next); state++ {
		if state >= met {
			return false
		}
		for _, to := range next[state] {
			if to < 0 || to > met {
				return false
			}
			if to == met {
				met++
			}
		}
	}
	return met == len(next)
}
