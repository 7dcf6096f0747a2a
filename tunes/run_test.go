package tunes_test

import (
	"strings"
	"testing"

	"tunes/api"
	"tunes/tunes"
)

func checkRun(t *testing.T, table api.Table, text string, want bool, wantErr api.Errno) {
	t.Helper()
	if accepts, e := tunes.Run(table, text); accepts != want || e != wantErr {
		t.Errorf("P3: Run of %.40q (%d bytes) = %v, %d, want %v, %d", text, len(text), accepts, e, want, wantErr)
	}
}

func TestP3RunReadsNoteByNote(t *testing.T) {
	path := rows("00010", "14444444", "42444444", "44444443", "44444444", "44444444") // abh
	for text, want := range map[string]bool{"abh": true, "": false, "ab": false, "abha": false, "hba": false, "abg": false, "h": false} {
		checkRun(t, path, text, want, api.OK)
	}
	for i, name := range strings.Split("abcdefgh", "") {
		single := rows("010", "22222222", "22222222", "22222222")
		single.Next[0][i] = 1
		for _, other := range strings.Split("abcdefgh", "") {
			checkRun(t, single, other, other == name, api.OK)
		}
	}
}

func TestP3RunEdges(t *testing.T) {
	checkRun(t, every(), "", true, api.OK)
	checkRun(t, none(), "", false, api.OK)
	checkRun(t, every(), strings.Repeat("abcdefgh", 125), true, api.OK)
	checkRun(t, odd(), strings.Repeat("a", api.MaxRun), false, api.OK)
	checkRun(t, odd(), strings.Repeat("a", api.MaxRun-1)+"h", true, api.OK)
	most := counter(api.MaxStates, 7, false, false)
	checkRun(t, most, strings.Repeat("h", api.MaxStates-1), true, api.OK)
	checkRun(t, most, strings.Repeat("h", api.MaxStates-2), false, api.OK)
	checkRun(t, most, strings.Repeat("h", api.MaxRun), true, api.OK)
}

func TestP3RunWrongTexts(t *testing.T) {
	for i := range 256 {
		b := byte(i)
		if b >= 'a' && b <= 'h' {
			continue
		}
		for _, text := range []string{string([]byte{b}), "a" + string([]byte{b}), string([]byte{b}) + "a"} {
			checkRun(t, every(), text, false, api.ErrTune)
		}
	}
	checkRun(t, every(), strings.Repeat("a", api.MaxRun+1), false, api.ErrTune)
	checkRun(t, every(), strings.Repeat("a", api.MaxRun-1)+"i", false, api.ErrTune)
	checkRun(t, every(), strings.Repeat("i", api.MaxRun+1), false, api.ErrTune)
	checkRun(t, every(), strings.Repeat("a", 1<<24), false, api.ErrTune)
	checkRun(t, every(), "aé", false, api.ErrTune)
}
