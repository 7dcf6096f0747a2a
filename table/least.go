package table

import "tunes/api"

// classes parts the states of a wide table: of tells of each state its class, heads of each class the
// least of its states. Classes are numbered in the order of their heads.
type classes struct {
	of    []int
	heads []int
}

// shrink gives the least table that means the same as w, and whether it has at most so many states.
func shrink(w *Wide, most int) (api.Table, bool) {
	parted := classes{of: make([]int, len(w.accept)), heads: []int{0}}
	// Each round but the last finds at least one class more, so there are at most as many rounds as
	// states that may be, however wide w is.
	for len(parted.heads) <= most {
		finer := split(w, parted, most)
		if len(finer.heads) == len(parted.heads) {
			return merge(w, finer), true
		}
		parted = finer
	}
	return api.Table{}, false
}

// split parts the states anew: together are those that are alike as far as the classes so far tell.
// It breaks off at more than so many classes, since no later round has fewer.
func split(w *Wide, parted classes, most int) classes {
	var finer classes
	for state := 0; state < len(w.accept); state++ {
		class := findClass(w, parted, finer.heads, state)
		if class == len(finer.heads) {
			finer.heads = append(finer.heads, state)
		}
		if len(finer.heads) > most {
			return finer
		}
		finer.of = append(finer.of, class)
	}
	return finer
}

// findClass gives the place of the head that is like the state; the number of heads, if none is.
func findClass(w *Wide, parted classes, heads []int, state int) int {
	for class, head := range heads {
		if alike(w, parted, head, state) {
			return class
		}
	}
	return len(heads)
}

func alike(w *Wide, parted classes, one int, two int) bool {
	if w.accept[one] != w.accept[two] {
		return false
	}
	for number := 0; number < api.Notes; number++ {
		if parted.of[w.next[one][number]] != parted.of[w.next[two][number]] {
			return false
		}
	}
	return true
}

// merge makes each class one state. The numbers of the classes are those of the least table's states:
// w is numbered as one comes to its states, so one comes to a class first at its head.
func merge(w *Wide, parted classes) api.Table {
	states := len(parted.heads)
	t := api.Table{Accept: make([]bool, states), Next: make([][]int, states)}
	for class, head := range parted.heads {
		// Each row has its own memory, since the caller may write into every list.
		row := make([]int, api.Notes)
		for number := 0; number < api.Notes; number++ {
			row[number] = parted.of[w.next[head][number]]
		}
		t.Accept[class] = w.accept[head]
		t.Next[class] = row
	}
	return t
}
