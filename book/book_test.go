package book

import (
	"reflect"
	"testing"

	"tunes/api"
)

func TestWhatIsTakenAwayIsKeptNoMore(t *testing.T) {
	list := []string{"", "h", "abc", "a"}
	every := api.Table{Accept: []bool{true}, Next: [][]int{make([]int, api.Notes)}}
	var b Book
	for _, tune := range list {
		b.Add(tune)
	}
	for number := range api.MaxCursors {
		b.Open(every)
		b.Next(number, 3)
	}
	for number := range api.MaxCursors {
		b.Close(number)
	}
	for _, tune := range list {
		b.Drop(tune)
	}
	if !reflect.DeepEqual(b, Book{}) {
		t.Errorf("the book still keeps %v", b)
	}
}
