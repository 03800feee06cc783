package verified

import (
	"testing"

	"roundtable/api"
	"roundtable/library"
	"roundtable/task"
)

func TestPermitted(t *testing.T) {
	c, _ := library.Commit(2)
	for index, x := range c.Cases {
		for faulty := range 4 {
			for code := range 9 {
				decisions := []int{code/3 - 1, code%3 - 1}
				ok, e := task.Permitted(c, index, faulty, decisions)
				if e != api.OK || ok != Permitted(x, faulty, decisions) {
					t.Errorf("case %d, faulty %d, decisions %v: %v", index, faulty, decisions, ok)
				}
			}
		}
	}
	copied := CloneTask(c)
	copied.Cases[3].Calm[0][0] = 7
	if c.Cases[3].Calm[0][0] != 1 {
		t.Errorf("a copy of a task shares memory with it")
	}
}
