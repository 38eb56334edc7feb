package work

import (
	"hazel/api"
	"hazel/mem"
	"hazel/pack"
	"hazel/stack"
)

// Word is what a place tells. What a look at it does to the arena is dropped: who asks isn't a core at a step.
func Word(m api.Mem, at int) int {
	_, v := mem.Load(m, at)
	return v
}

// First takes the first free node from the list, as a pop that is done at once, and makes its Next tell none. No, and the arena as it was, if the list can't be walked, or is empty.
func First(m api.Mem) (api.Mem, int, bool) {
	free, is := stack.Walk(m)
	if !is || len(free) == 0 {
		return m, 0, false
	}
	node := free[0]
	m = swapped(m, api.Head, Word(m, mem.At(node, api.Link)))
	m = mem.Turn(m, node, api.Live)
	return swapped(m, mem.At(node, api.Next), 0), node, true
}

// swapped is the arena whose word at a place is its next one, of an index, and without a mark.
func swapped(m api.Mem, at, index int) api.Mem {
	m, v := mem.Load(m, at)
	return mem.Store(m, at, pack.Next(v, index, 0))
}
