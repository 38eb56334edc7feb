package list

import (
	"slices"

	"hazel/api"
	"hazel/pack"
)

// What a key is looked for for: which events an OFind tells.
const (
	toGet = iota
	toInsert
	toRemove
	toTidy
)

// The steps of OFind that others lead to than the one ahead.
const (
	findAgain = 0
	findName  = 1
	findKey   = 6
	findCheck = 9
)

// find is a step of OFind: R2 is what it is for, R3 the place that is looked at, R4 the word there, R5 the Next of its node, R6 the node's Key.
func (w seeker) find() api.Sys {
	switch w.Pc {
	case 0:
		w.R[3] = w.R[0]
		goto on
	case 1:
		return w.name(nodeSlot, pack.Index(w.R[4])).On()
	case 2:
		return w.checkName()
	case 3:
		return w.seeNext()
	case 4:
		return w.tidy()
	case 5:
		goto on
	case 6:
		return w.seeKey()
	case 7:
		return w.name(aheadSlot, pack.Index(w.R[4])).On()
	case 8:
		w.R[3] = cell(w.R[4], api.Next)
		goto on
	case 9:
		return w.checkPlace()
	case 10:
		return w.checkNode()
	default:
		return w.At(w.Pc)
	}
on:
	w.Work = w.Load(4, w.R[3])
	if pack.Mark(w.R[4]) != 0 { // the node whose Next that is has gone, and tells no way any more
		return w.At(findAgain)
	}
	if pack.Index(w.R[4]) == 0 {
		return w.missing()
	}
	return w.At(findName)
}

// checkName makes the name good: as long as the place tells the node, it wasn't retired.
func (w seeker) checkName() api.Sys {
	var stands bool
	w.Work, stands = w.Holds(w.R[3], w.R[4])
	if !stands {
		return w.At(findAgain)
	}
	return w.On()
}

func (w seeker) seeNext() api.Sys {
	w.Work = w.Load(5, cell(w.R[4], api.Next))
	if pack.Mark(w.R[5]) == 0 {
		return w.At(findKey)
	}
	return w.On()
}

// tidy takes a node out that is gone, for a core that stopped ahead of that.
func (w seeker) tidy() api.Sys {
	w, was := w.unlink()
	if !was {
		return w.At(findAgain)
	}
	return w.Call(api.ORetire, pack.Index(w.R[4]))
}

func (w seeker) seeKey() api.Sys {
	w.Work = w.Load(6, cell(w.R[4], api.Key))
	if w.R[6] >= w.R[1] {
		return w.At(findCheck)
	}
	return w.On()
}

// checkPlace is where a key wasn't there, if a greater one was: the node ahead tells the greater one's, and isn't gone.
func (w seeker) checkPlace() api.Sys {
	var stands bool
	w.Work, stands = w.Holds(w.R[3], w.R[4])
	if !stands {
		return w.At(findAgain)
	}
	if w.R[6] > w.R[1] {
		return w.missing()
	}
	return w.On()
}

// checkNode is where the key was there, if its node isn't gone.
func (w seeker) checkNode() api.Sys {
	w.Work = w.Load(5, cell(w.R[4], api.Next))
	if pack.Mark(w.R[5]) != 0 {
		return w.At(findAgain)
	}
	return w.there()
}

// missing ends: the key isn't there.
func (w seeker) missing() api.Sys {
	if w.R[2] == toGet || w.R[2] == toRemove {
		w = w.tell(api.EGone, 0)
	}
	return w.tellFound(0)
}

// there ends: the key is there.
func (w seeker) there() api.Sys {
	switch w.R[2] {
	case toGet:
		w = w.tell(api.ESeen, 0)
	case toInsert:
		w = w.tell(api.EHad, 0)
	}
	return w.tellFound(1)
}

// tellFound ends, and lays where the key was looked for into the core's X.
func (w seeker) tellFound(v int) api.Sys {
	after := w.End(v, api.OK)
	after.C = slices.Clone(after.C)
	after.C[w.Id].X = [3]int{w.R[3], w.R[4], w.R[5]}
	return after
}
