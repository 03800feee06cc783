package explore

import (
	"fmt"
	"testing"

	"roundtable/api"
)

func TestMerge(t *testing.T) {
	move := func(hears, to int) api.Move {
		return api.Move{Round: api.Round{Graph: api.Graph{N: 2, Hears: [5]int{hears, 2}}}, To: to}
	}
	text := ""
	for s := range Merge([]api.Move{move(1, 4), move(3, 5)}, []api.Move{move(0, 6), move(1, 7)}) {
		text += fmt.Sprint(s.Round.Graph.Hears[0], s.X, s.Y, s.Both(), " ")
	}
	if text != "0 -1 6 false 1 4 7 true 3 5 -1 false " {
		t.Errorf("Merge: %s", text)
	}
	x := [][]api.Move{{move(0, 0), move(1, 1)}, {move(1, 0)}}
	y := [][]api.Move{{move(0, 0), move(1, 0), move(2, 0)}}
	word, found, pairs := First(x, y, [2]int{1, 0}, func(s Step) bool { return s.Y < 0 })
	if found || len(word) > 0 || fmt.Sprint(pairs) != "[[1 0] [0 0]]" {
		t.Errorf("First: %v, %v, %v", word, found, pairs)
	}
	word, found, _ = First(x, y, [2]int{0, 0}, func(s Step) bool { return s.X < 0 && s.Round.Graph.Hears[0] == 0 })
	if !found || len(word) != 2 || word[0] != move(1, 0).Round || word[1] != move(0, 0).Round {
		t.Errorf("First: %v", word)
	}
}
