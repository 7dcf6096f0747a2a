package table

import "tunes/api"

// Join gives the least table of what t and u accept, joined as how says (P6).
func Join(t api.Table, u api.Table, how int, budget int) (api.Table, api.Errno) {
	if !Valid(t) {
		return api.Table{}, api.ErrTable
	}
	if !Valid(u) {
		return api.Table{}, api.ErrTable
	}
	if how < api.And || how > api.Differ {
		return api.Table{}, api.ErrArg
	}
	both := pairUp(t, u, how)
	return both.Least(budget)
}

// Least gives the least table that means the same as t (P5).
func Least(t api.Table) (api.Table, api.Errno) {
	// What t and t both accept is what t accepts, and its least table never has more states than t.
	return Join(t, t, api.And, api.MaxStates)
}

// Not gives the least table of the texts that t does not accept (P5).
func Not(t api.Table) (api.Table, api.Errno) {
	all := everything()
	return Join(all, t, api.Less, api.MaxStates)
}

// everything gives the table that accepts all texts.
func everything() api.Table {
	return api.Table{Accept: []bool{true}, Next: [][]int{make([]int, api.Notes)}}
}

// pair is a state of each of two tables.
type pair struct {
	one int
	two int
}

// pairUp gives the wide table that reads a text with both tables at once. It has only the pairs that
// some text leads to, numbered as one comes to them.
func pairUp(t api.Table, u api.Table, how int) *Wide {
	w := &Wide{}
	// Of each pair one more than its number, so that 0 says: not met yet.
	var met [api.MaxStates][api.MaxStates]int
	met[0][0] = 1
	pairs := []pair{{one: 0, two: 0}}
	for at := 0; at < len(pairs); at++ {
		here := pairs[at]
		var row [api.Notes]int
		for number := 0; number < api.Notes; number++ {
			one := t.Next[here.one][number]
			two := u.Next[here.two][number]
			if met[one][two] == 0 {
				pairs = append(pairs, pair{one: one, two: two})
				met[one][two] = len(pairs)
			}
			row[number] = met[one][two] - 1
		}
		accepts := joined(t.Accept[here.one], u.Accept[here.two], how)
		w.Add(accepts, row)
	}
	return w
}

func joined(one bool, two bool, how int) bool {
	switch how {
	case api.And:
		return one && two
	case api.Or:
		return one || two
	case api.Less:
		return one && !two
	}
	return one != two
}
