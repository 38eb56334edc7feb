// Package pack is layer 1: see shared/doc/01-pack.md.
package pack

import (
	"hazel/api"
)

// The widths of a word's parts in bits, from the lowest part up.
const (
	markWidth  = 1
	indexWidth = 20 * iota
	tagWidth
)

// wordWidth is that of a whole packed word.
const wordWidth = markWidth + indexWidth + tagWidth

// Of is a packed word.
func Of(tag, index, mark int) (int, api.Errno) {
	if !fits(tag, tagWidth) || !fits(index, indexWidth) || !fits(mark, markWidth) {
		return 0, api.ErrArg
	}
	return join(tag, index, mark), api.OK
}

// Index is a word's index.
func Index(w int) int { return cut(w, indexWidth, markWidth) }

// Mark is a word's mark.
func Mark(w int) int { return cut(w, markWidth) }

// Tag is a word's tag.
func Tag(w int) int { return cut(w, tagWidth, markWidth, indexWidth) }

// Next is a word of the next tag.
func Next(w, index, mark int) int {
	return join(cut(Tag(w)+1, tagWidth), cut(index, indexWidth), cut(mark, markWidth))
}

// Right: is it packed?
func Right(w int) bool { return fits(w, wordWidth) }

// cut is the part of that width that lies over those below it. The shift keeps the sign and the mask drops it, so a word below 0 is cut as its rest from 0 on.
func cut(w int, width uint, below ...uint) int {
	for _, b := range below {
		w >>= b
	}
	return w & (1<<width - 1)
}

// fits: is a number a part of that width, as it stands?
func fits(n int, width uint) bool { return cut(n, width) == n }

// join is the word of parts that fit.
func join(tag, index, mark int) int {
	return (tag<<indexWidth|index)<<markWidth | mark
}
