package tunes_test

import (
	"reflect"
	"strings"
	"testing"

	"tunes/api"
	"tunes/tunes"
)

// compiled gives the table of a pattern, and fails if there is none.
func compiled(t *testing.T, pattern string) api.Table {
	t.Helper()
	table, e, place := tunes.Compile(pattern, api.MaxStates)
	if e != api.OK || place != 0 {
		t.Fatalf("P8: Compile(%q) = %v, %d, %d, want a table and the place 0", pattern, table, e, place)
	}
	return table
}

func TestP8KnownTables(t *testing.T) {
	empty := rows("10", "11111111", "11111111")
	ways := rows("010", "12222222", "21122222", "22222222")
	for _, c := range []struct {
		want     api.Table
		patterns []string
	}{
		{empty, []string{"", "|", "||", "()", "()*", "()+", "()?", "(){0}", "(){9}", "(){0,}", "(){9,}", "(){0,9}", "(|)*", "a{0}", "a{0,0}", "(a|b){0}", "a{0}b{0}", "(a{0}|b{0})+", "[^a-h]*", "[^a-h]?", "[^a-h]{0,9}"}},
		{none(), []string{"[^a-h]", "[^a-h]+", "[^a-h]{1}", "[^a-h]{9,}", "a[^a-h]", "[^a-h]a", "[^ha-g]", "[^hgfedcba]", "[^a-h]|[^a-h]b"}},
		{every(), []string{".*", "[a-h]*", "(.|)*", ".{0,}", "(.*)*", "(.?)*", "(.+)?", "(..|.)*", "[hgfedcba]*", ".*|a", "a.*|.*", ".*.*", "(.?)+"}},
		{rows("010", "11111111", "22222222", "22222222"), []string{".", "[a-h]", "[a-dc-h]", "a|[^a]", "()."}},
		{rows("010", "12222222", "22222222", "22222222"), []string{"a", "(a)", "((((((a))))))", "[a]", "[aa]", "[a-a]", "[^b-h]", "[^hb-g]", "a{1}", "a{1,1}", "a()", "a|a", "(a|[^a-h])"}},
		{rows("001", "11111112", "11111111", "11111111"), []string{"h", "[h]", "[h-h]", "[^a-g]"}},
		{ways, []string{"a(b|c)*", "a[bc]*", "a[b-c]*", "a[^ad-h]*", "a(b*c*)*", "a(b|c){0,}", "a|a(b|c)+"}},
		{rows("0010", "12333333", "32333333", "33333333", "33333333"), []string{"b|ab", "a?b", "(a|)b", "(|a)b", "a{0,1}b", "ab|b"}},
		{rows("010", "12222222", "12222222", "22222222"), []string{"a+", "a{1,}", "aa*", "a*a", "a|a+", "(a+)+"}},
		{rows("00011", "12222222", "32222222", "22222222", "42222222", "22222222"), []string{"a{2,3}", "aaa?", "aa|aaa", "aa?a", "a{2}|a{3}", "a{2}a{0,1}"}},
	} {
		for _, pattern := range c.patterns {
			if got := compiled(t, pattern); !reflect.DeepEqual(got, c.want) {
				t.Errorf("P8: Compile(%q) = %v, want %v", pattern, got, c.want)
			}
		}
	}
}

// TestP8Repetitions counts how often a note may come, for every mark that there is.
func TestP8Repetitions(t *testing.T) {
	digits := "0123456789"
	for n := range 10 {
		few := digits[n : n+1]
		checkTimes(t, "a{"+few+"}", 1, n, n)
		checkTimes(t, "(ab){"+few+"}", 2, n, n)
		checkTimes(t, "a{"+few+",}", 1, n, 99)
		checkTimes(t, "(ab){"+few+",}", 2, n, 99)
		for m := n; m < 10; m++ {
			checkTimes(t, "a{"+few+","+digits[m:m+1]+"}", 1, n, m)
			checkTimes(t, "(ab){"+few+","+digits[m:m+1]+"}", 2, n, m)
		}
	}
	checkTimes(t, "a*", 1, 0, 99)
	checkTimes(t, "a+", 1, 1, 99)
	checkTimes(t, "a?", 1, 0, 1)
	checkTimes(t, "(ab)*", 2, 0, 99)
	checkTimes(t, "(ab)+", 2, 1, 99)
	checkTimes(t, "(ab)?", 2, 0, 1)
}

func checkTimes(t *testing.T, pattern string, size int, least int, most int) {
	t.Helper()
	copies := most
	if most == 99 {
		copies = least + 1
	}
	table, e, place := tunes.Compile(pattern, api.MaxStates)
	if size*copies <= api.MaxSize {
		if e != api.OK || place != 0 {
			t.Fatalf("P8: Compile(%q) = %v, %d, %d", pattern, table, e, place)
		}
		for times := range 25 {
			text := strings.Repeat("ab"[:size], times)
			accepts, _ := tunes.Run(table, text)
			if accepts != (times >= least && times <= most) {
				t.Errorf("P8: the table of %q: %q: %v", pattern, text, accepts)
			}
		}
	} else if e != api.ErrSize || place != 0 || !isNothing(table) {
		t.Errorf("P7: Compile(%q) = %v, %d, %d, want ErrSize", pattern, table, e, place)
	}
}

func TestP8TheBudgetIsThatOfTheLeastTable(t *testing.T) {
	for _, c := range []struct {
		pattern string
		states  int
	}{
		{".*", 1}, {"[^a-h]", 1}, {"", 2}, {"()", 2}, {"a", 3}, {"b|ab", 4}, {"[ab]*a[ab]{4}", 33}, {"[ab]*a[ab]{3}", 17},
		{"abcdefghab", 12}, {"(a|b)*abb", 5}, {"[^a]*a.{4}", 7}, {".*a.{4}", 32},
		// All the states on the way to these come to one in the end.
		{"([ab]*a[ab]{7})?.*", 1}, {"(.*a.{6}|.)*", 1}, {"(.*a.{5}|[^a-h])*.*", 1},
	} {
		want := compiled(t, c.pattern)
		if len(want.Accept) != c.states {
			t.Errorf("P8: Compile(%q) has %d states, want %d", c.pattern, len(want.Accept), c.states)
		}
		for budget := 1; budget <= api.MaxStates; budget++ {
			got, e, place := tunes.Compile(c.pattern, budget)
			if budget < c.states {
				checkRefused(t, c.pattern, budget, api.ErrBudget, 0)
			} else if e != api.OK || place != 0 || !reflect.DeepEqual(got, want) {
				t.Errorf("P8: Compile(%q, %d) = %v, %d, %d, want %v", c.pattern, budget, got, e, place, want)
			}
		}
	}
	for _, pattern := range []string{"[ab]*a[ab]{5}", "[ab]*a[ab]{8}", ".*a.{5}", ".*a.{8}", ".*[^a].{8}", "(.*a.{8})?"} {
		checkRefused(t, pattern, api.MaxStates, api.ErrBudget, 0)
	}
}

func checkRefused(t *testing.T, pattern string, budget int, want api.Errno, wantPlace int) {
	t.Helper()
	table, e, place := tunes.Compile(pattern, budget)
	if e != want || place != wantPlace || !isNothing(table) {
		t.Errorf("P7: Compile(%.60q, %d) = %v, %d, %d, want nothing, %d, %d", pattern, budget, table, e, place, want, wantPlace)
	}
}

func TestP7Places(t *testing.T) {
	for _, c := range []struct {
		pattern string
		place   int
	}{
		{"*", 0}, {"+", 0}, {"?", 0}, {"{1}", 0}, {")", 0}, {"]", 0}, {"}", 0}, {"^", 0}, {"-", 0}, {",", 0}, {"0", 0}, {"i", 0}, {"A", 0}, {" ", 0}, {"\x00", 0}, {"\xff", 0}, {"é", 0}, {"`", 0},
		{"a**", 2}, {"a*+", 2}, {"a?{1}", 2}, {"a{1}{2}", 4}, {"a+?", 2}, {"(a*)**", 5}, {"(**", 1}, {"a|*", 2}, {"a|+", 2}, {"a(|?)", 3}, {"()**", 3},
		{"ax", 1}, {"a b", 1}, {"a\n", 1}, {"abcdefghi", 8}, {"a-b", 1}, {"a,b", 1}, {"a1", 1}, {"a^", 1},
		{"a)", 1}, {"a|b)", 3}, {"())", 2}, {"(a", 2}, {"(", 1}, {"((a)", 4}, {"(a|", 3}, {"a(b*", 4}, {"(]", 1}, {"(}", 1},
		{"(((((((", 6}, {"(((((((a)))))))", 6}, {"a((((((b(", 8}, {"((((((a)(b)))))))", 16}, {"()((((((()))))))", 8}, {"((((((|(", 7},
		{"[", 1}, {"[^", 2}, {"[]", 1}, {"[^]", 2}, {"[^^a]", 2}, {"[a", 2}, {"[^a", 3}, {"[a-", 3}, {"[a-]", 3}, {"[a-b", 4}, {"[a-b-c]", 4}, {"[a--b]", 3}, {"[-a]", 1}, {"[a^]", 2}, {"[a|b]", 2}, {"[.]", 1}, {"[(a)]", 1}, {"[i]", 1}, {"[a-i]", 3}, {"[ai]", 2}, {"[a]]", 3}, {"[a[b]]", 2}, {"[a*]", 2},
		{"a{", 2}, {"a{}", 2}, {"a{,}", 2}, {"a{,2}", 2}, {"a{1", 3}, {"a{12}", 3}, {"a{1,", 4}, {"a{1,2", 5}, {"a{1,23}", 5}, {"a{1,,}", 4}, {"a{1,2,}", 5}, {"a{a}", 2}, {"a{-1}", 2}, {"a{1 }", 3}, {"a{1)", 3}, {"a{1,)", 4}, {"a{1,2)", 5},
	} {
		for _, budget := range []int{0, 1, api.MaxStates} {
			checkRefused(t, c.pattern, budget, api.ErrPattern, c.place)
		}
	}
}

func TestP7Spans(t *testing.T) {
	for _, c := range []struct {
		pattern string
		place   int
	}{
		{"a{3,2}", 2}, {"a{1,0}", 2}, {"a{9,0}", 2}, {"a{9,8}", 2}, {"(){1,0}", 3}, {"(a|b){5,4}", 6}, {"[e-c]", 1}, {"[b-a]", 1}, {"[h-a]", 1}, {"[^b-a]", 2}, {"[a-b][^d-a]", 7}, {"[ab-a]", 2}, {"[a-bb-a]", 4}, {"[c-ab-a]", 1},
		{"a{3,2}[e-c]", 2}, {"[e-c]a{3,2}", 1}, {"([e-c]){3,2}", 2}, {"(a{3,2}){4,1}", 3}, {"a{2,2}b{2,1}", 8}, {"(a|b{2,1})|[b-a]", 5},
		{"(a{2,1}){0}", 3}, {"[b-a]{0}", 1},
		// These would be too great as well.
		{"a{9}b{9}c{3,2}", 10}, {"(a{9}){9,8}", 7}, {"aaaaaaaaaaa[b-a]", 12},
	} {
		for _, budget := range []int{-1, 1, api.MaxStates} {
			checkRefused(t, c.pattern, budget, api.ErrSpan, c.place)
		}
	}
	for _, pattern := range []string{"a{2,2}", "a{0,0}", "a{9,9}", "a{9,}", "a{0,1}", "[c-c]", "[a-h]", "[^h-h]", "[ba]", "[ca-b]"} {
		compiled(t, pattern)
	}
}

func TestP7Sizes(t *testing.T) {
	for _, c := range []struct {
		pattern string
		size    int
	}{
		{"", 0}, {"()", 0}, {"|", 0}, {"a{0}", 0}, {"a", 1}, {".", 1}, {"[a-h]", 1}, {"[^abc]", 1}, {"ab", 2}, {"a|b", 2}, {"a(b|c)*", 3}, {"a{0,}", 1}, {"(ab+){3}", 9}, {"(ab){4,9}", 18},
		{"aaaaaaaaaa", 10}, {"aaaaaaaaaaa", 11}, {"..........", 10}, {"...........", 11}, {"a|a|a|a|a|a|a|a|a|a", 10}, {"a|a|a|a|a|a|a|a|a|a|a", 11}, {"[ab][ab][ab][ab][ab][ab][ab][ab][ab][ab]", 10}, {"(a)(a)(a)(a)(a)(a)(a)(a)(a)(a)(a)", 11},
		{"a+a+a+a+a+", 10}, {"a+a+a+a+a+a", 11}, {"(abcde)+", 10}, {"(abcde)+f", 11}, {"(abcdef)+", 12}, {"a*a*a*a*a*a*a*a*a*a*", 10}, {"a*a*a*a*a*a*a*a*a*a*a", 11}, {"a?a?a?a?a?a?a?a?a?a?", 10}, {"a?a?a?a?a?a?a?a?a?a?a?", 11},
		{"a{9}b", 10}, {"a{9}bc", 11}, {"a{9,}", 10}, {"a{9,}b", 11}, {"(ab){5}", 10}, {"(ab){6}", 12}, {"(ab){4,}", 10}, {"(ab){5,}", 12}, {"(ab){0,5}", 10}, {"(ab){0,6}", 12}, {"(ab){5,6}", 12}, {"(a+){5}", 10}, {"(a+){6}", 12}, {"(a+)+", 4}, {"((a+)+)+", 8}, {"(((a+)+)+)+", 16},
		{"(a{9}){0}bbbbbbbbbb", 10}, {"(a{9}b{9}){0}", 0}, {"((a{9}){9}){0,0}", 0}, {"(a{9}){0,}b", 10}, {"(a{9}){0,}bb", 11}, {"((((((){9,}){9,}){9,}){9,}){9,}){9,}", 0}, {"((((((a{0}){9}){9}){9}){9}){9}){9}", 0}, {"((((((a{9}){9}){9}){9}){9}){9}){9}", 4782969}, {"((((((a){9,}){9,}){9,}){9,}){9,}){9,}", 1000000},
	} {
		if c.size > api.MaxSize {
			for _, budget := range []int{-1 << 63, 0, 1, api.MaxStates, api.MaxStates + 1} {
				checkRefused(t, c.pattern, budget, api.ErrSize, 0)
			}
		} else {
			checkLeast(t, compiled(t, c.pattern))
			for _, budget := range []int{-1 << 63, -1, 0, api.MaxStates + 1, 1<<63 - 1} {
				checkRefused(t, c.pattern, budget, api.ErrArg, 0)
			}
		}
	}
}

func TestP7TheLengthOfATextAndTheDepthOfBrackets(t *testing.T) {
	for _, pattern := range []string{
		strings.Repeat("|", 40),
		strings.Repeat("()", 20),
		"[" + strings.Repeat("a", 38) + "]",
		"aaaaaaaaaa" + strings.Repeat("()", 15),
		strings.Repeat("(", 6) + strings.Repeat("|", 28) + strings.Repeat(")", 6),
	} {
		if len(pattern) != api.MaxPattern {
			t.Fatalf("%q has %d bytes", pattern, len(pattern))
		}
		compiled(t, pattern)
		checkRefused(t, pattern+"|", api.MaxStates, api.ErrLong, 0)
		checkRefused(t, pattern+"|", 0, api.ErrLong, 0)
	}
	checkRefused(t, strings.Repeat("a", 40), 0, api.ErrSize, 0)
	checkRefused(t, strings.Repeat("a", 39)+"*", 1, api.ErrSize, 0)
	checkRefused(t, strings.Repeat("a", 39)+"(", 1, api.ErrPattern, 40)
	checkRefused(t, strings.Repeat("a", 39)+"x", 1, api.ErrPattern, 39)
	checkRefused(t, strings.Repeat("|", 38)+"[a", 1, api.ErrPattern, 40)
	for _, long := range []string{strings.Repeat("*", 41), strings.Repeat("(", 41), strings.Repeat("a", 41), strings.Repeat("\xff", 41), "a{3,2}" + strings.Repeat("|", 35), strings.Repeat("(", 5000000)} {
		for _, budget := range []int{0, 1, api.MaxStates} {
			checkRefused(t, long, budget, api.ErrLong, 0)
		}
	}
	a := compiled(t, "a")
	for depth := range 7 {
		pattern := strings.Repeat("(", depth) + "a" + strings.Repeat(")", depth)
		if got := compiled(t, pattern); !reflect.DeepEqual(got, a) {
			t.Errorf("P8: Compile(%q) = %v, want %v", pattern, got, a)
		}
		// Brackets beside one another are no deeper than one of them.
		compiled(t, pattern+pattern)
	}
}

func TestP7SeveralErrorsAtOnce(t *testing.T) {
	checkRefused(t, "(a{3,2}){9}"+strings.Repeat("*", 30), 0, api.ErrLong, 0)
	checkRefused(t, "a{3,2}x", 0, api.ErrPattern, 6)
	checkRefused(t, "[b-a", 0, api.ErrPattern, 4)
	checkRefused(t, "a{3,2", 0, api.ErrPattern, 5)
	checkRefused(t, "a{9}b{9})", 0, api.ErrPattern, 8)
	checkRefused(t, "x*)", 0, api.ErrPattern, 0)
	checkRefused(t, "a{9}b{9}[b-a]", 0, api.ErrSpan, 9)
	checkRefused(t, "a{9}b{9}", 0, api.ErrSize, 0)
	checkRefused(t, "a{9}b{9}", 1, api.ErrSize, 0)
	checkRefused(t, "[ab]*a[ab]{8}", 0, api.ErrArg, 0)
	checkRefused(t, "[ab]*a[ab]{8}", 41, api.ErrArg, 0)
	checkRefused(t, "[ab]*a[ab]{8}", 40, api.ErrBudget, 0)
}
