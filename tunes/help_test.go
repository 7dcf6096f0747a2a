package tunes_test

import (
	"testing"

	"tunes/api"
)

// rows makes a table: of each state whether it accepts (1), and a row of digits.
func rows(accept string, next ...string) api.Table {
	var t api.Table
	for i := range accept {
		t.Accept = append(t.Accept, accept[i] == '1')
	}
	for _, digits := range next {
		var row []int
		for i := range digits {
			row = append(row, int(digits[i]-'0'))
		}
		t.Next = append(t.Next, row)
	}
	return t
}

// counter makes a table of so many states that goes on by one at the one note and stays at all others.
// At the last state it stays, or begins anew if it is a ring. Every state accepts, or just the last.
func counter(states int, number int, ring bool, all bool) api.Table {
	var t api.Table
	for i := range states {
		row := make([]int, api.Notes)
		for j := range row {
			row[j] = i
		}
		if i+1 < states {
			row[number] = i + 1
		} else if ring {
			row[number] = 0
		}
		t.Accept = append(t.Accept, all || i == states-1)
		t.Next = append(t.Next, row)
	}
	return t
}

// every accepts all texts, none no text, odd those with an odd number of a.
func every() api.Table { return rows("1", "00000000") }
func none() api.Table  { return rows("0", "00000000") }
func odd() api.Table   { return rows("01", "10000000", "01111111") }

// dice is a source of numbers that are the same at each run of the tests.
type dice uint64

func (d *dice) roll(sides int) int {
	*d = *d*6364136223846793005 + 1442695040888963407
	return int(uint64(*d)>>33) % sides
}

// table makes a table of so many states. Few of its notes differ from one another if it is plain, so
// that states often mean the same or are not come to.
func (d *dice) table(states int, plain bool) api.Table {
	var t api.Table
	for range states {
		row := make([]int, api.Notes)
		for j := range row {
			row[j] = d.roll(states)
			if plain && j > 1 {
				row[j] = row[j-2]
			}
		}
		t.Accept = append(t.Accept, d.roll(3) == 0)
		t.Next = append(t.Next, row)
	}
	return t
}

func copied(t api.Table) api.Table {
	var c api.Table
	c.Accept = append(c.Accept, t.Accept...)
	for _, row := range t.Next {
		c.Next = append(c.Next, append([]int(nil), row...))
	}
	return c
}

// join is what the document says of how, of one text.
func join(one, two bool, how int) bool {
	return [][]bool{{one && two}, {one || two}, {one && !two}, {one != two}}[how][0]
}

// meansJoin tells whether m accepts just what t and u joined accept, by reading with all three at once.
func meansJoin(m, t, u api.Table, how int) bool {
	met := map[[3]int]bool{{}: true}
	queue := [][3]int{{}}
	for len(queue) > 0 {
		s := queue[0]
		queue = queue[1:]
		if m.Accept[s[0]] != join(t.Accept[s[1]], u.Accept[s[2]], how) {
			return false
		}
		for n := range api.Notes {
			next := [3]int{m.Next[s[0]][n], t.Next[s[1]][n], u.Next[s[2]][n]}
			if !met[next] {
				met[next] = true
				queue = append(queue, next)
			}
		}
	}
	return true
}

// told gives of each two states whether some text tells them apart: it marks pairs until no more come.
func told(accept []bool, next [][]int) [][]bool {
	apart := make([][]bool, len(accept))
	for i := range apart {
		apart[i] = make([]bool, len(accept))
		for j := range accept {
			apart[i][j] = accept[i] != accept[j]
		}
	}
	for more := true; more; {
		more = false
		for i := range accept {
			for j := range accept {
				for n := range api.Notes {
					if !apart[i][j] && apart[next[i][n]][next[j][n]] {
						apart[i][j] = true
						more = true
					}
				}
			}
		}
	}
	return apart
}

// leastSize gives how many states the least table of t and u joined has.
func leastSize(t, u api.Table, how int) int {
	number := map[[2]int]int{{}: 0}
	pairs := [][2]int{{}}
	var accept []bool
	var next [][]int
	for at := 0; at < len(pairs); at++ {
		p := pairs[at]
		accept = append(accept, join(t.Accept[p[0]], u.Accept[p[1]], how))
		var row []int
		for n := range api.Notes {
			to := [2]int{t.Next[p[0]][n], u.Next[p[1]][n]}
			if _, known := number[to]; !known {
				number[to] = len(pairs)
				pairs = append(pairs, to)
			}
			row = append(row, number[to])
		}
		next = append(next, row)
	}
	apart := told(accept, next)
	size := 0
	for i := range accept {
		first := true
		for j := range i {
			first = first && apart[i][j]
		}
		if first {
			size++
		}
	}
	return size
}

// checkLeast checks that m is a least table: a table, no two states that mean the same, and its states
// numbered as one comes to them.
func checkLeast(t *testing.T, m api.Table) {
	t.Helper()
	if len(m.Accept) < 1 || len(m.Accept) > api.MaxStates || len(m.Next) != len(m.Accept) {
		t.Fatalf("no table: %v", m)
	}
	met := 1
	for i, row := range m.Next {
		if len(row) != api.Notes || i >= met {
			t.Fatalf("state %d: no row, or one does not come to it in its turn: %v", i, m)
		}
		for _, to := range row {
			if to < 0 || to > met || to >= len(m.Next) {
				t.Fatalf("state %d leads to %d, and one has come to %d states: %v", i, to, met, m)
			}
			if to == met {
				met++
			}
		}
	}
	for i, row := range told(m.Accept, m.Next) {
		for j, apart := range row {
			if i != j && !apart {
				t.Fatalf("states %d and %d mean the same: %v", i, j, m)
			}
		}
	}
}
