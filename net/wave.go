package net

import (
	"slices"

	"retiary/api"
)

// work is what has come for a node since its last turn.
type work struct {
	tokens []int      // came above it, rising
	facts  []api.Fact // came beside it
	inner  []int      // came at its inner node, if it is an Ncc
	freed  []int      // stand above it, and lost what held them up
}

// wave is the nodes that a call has set going. Each has one turn, ahead of all nodes with greater numbers: as a node's number is greater than those of its parent and of its inner node, all that it hangs on is as it will be when its turn comes. So no token comes that would go again in the same call, and nobody is met twice.
type wave struct {
	turns []int // rising
	works map[int]*work
}

// of is the work that waits for a node; without any it waits for its turn alone.
func (v *wave) of(id int) *work {
	if v.works == nil {
		v.works = map[int]*work{}
	}
	if v.works[id] == nil {
		v.works[id] = &work{}
		i, _ := slices.BinarySearch(v.turns, id)
		v.turns = slices.Insert(v.turns, i, id)
	}
	return v.works[id]
}

// next is the node whose turn it is, and its work; false, if nobody waits.
func (v *wave) next() (int, *work, bool) {
	if len(v.turns) == 0 {
		return 0, nil, false
	}
	id := v.turns[0]
	w := v.works[id]
	v.turns = v.turns[1:]
	delete(v.works, id)
	return id, w, true
}
