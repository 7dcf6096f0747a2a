package book

// Knots gives the knots of b, in the order (P11).
func (b *Book) Knots() []string {
	knots := []string{""}
	// The beginnings of the tunes, each taken at the first tune that has it and the shorter ones first,
	// come in the order: so the knots among them do too.
	for at := 0; at < b.count; at++ {
		tune := b.tunes[at]
		for length := b.known(at) + 1; length <= len(tune); length++ {
			if length == len(tune) || b.parts(at, length) {
				knots = append(knots, tune[:length])
			}
		}
	}
	return knots
}

// known gives the length of the longest beginning of a tune that a tune ahead of it has too. The one just
// ahead of it has that beginning, if any has.
func (b *Book) known(at int) int {
	if at == 0 {
		return 0
	}
	return common(b.tunes[at-1], b.tunes[at])
}

// parts tells whether a tune behind this one has that much of its beginning, and no more: it goes on with
// another note. (None ends there: a tune that ends there stands ahead of this one.)
func (b *Book) parts(at int, length int) bool {
	for behind := at + 1; behind < b.count; behind++ {
		if common(b.tunes[at], b.tunes[behind]) == length {
			return true
		}
	}
	return false
}

// common gives the length of the longest beginning that both texts have.
func common(one string, two string) int {
	length := 0
	for length < len(one) && length < len(two) && one[length] == two[length] {
		length++
	}
	return length
}
