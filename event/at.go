package event

import (
	"hazel/api"
	"hazel/pack"
	"hazel/work"
)

// lays is the index that each op lays into an event's word: 0 is that of one that isn't set.
func lays() map[int]int {
	return map[int]int{api.OSet: 1, api.OReset: 0, api.OTest: 0}
}

// atEvent is a core at a step of an op of the event R0: R1 is the word that it saw.
type atEvent struct{ work.Work }

// step does the one that Pc tells; nothing, where there is none, or no such event.
func (e atEvent) step() api.Sys {
	steps := e.steps()
	if !isEvent(e.R[0]) || e.Pc < 0 || e.Pc >= len(steps) {
		return e.At(e.Pc)
	}
	return steps[e.Pc]()
}

// steps are those of the op, in their order.
func (e atEvent) steps() []func() api.Sys {
	mark := pack.Mark(e.R[1])
	switch e.Op {
	case api.OSet:
		return []func() api.Sys{e.see(), e.lay(mark, api.ESet, 0)}
	case api.OReset:
		return []func() api.Sys{e.see(), e.lay(mark, api.EReset, 0)}
	case api.OTest:
		return []func() api.Sys{e.test(), e.lay(1, api.ETest, 1)}
	}
	return nil
}

// see is the step that looks at the word.
func (e atEvent) see() func() api.Sys {
	return func() api.Sys { return e.load().On() }
}

// test is the step that looks at the word, and is the last one, unless the event is set and resets itself: then just one core may tell that.
func (e atEvent) test() func() api.Sys {
	return func() api.Sys {
		e := e.load()
		switch {
		case !isSet(e.R[1]):
			return e.ends(api.ETest, 0)
		case !resetsItself(e.R[1]):
			return e.ends(api.ETest, 1)
		}
		return e.On()
	}
}

// lay is the step that lays the op's index into the word, with a mark, if the word is still the one that was seen, and ends with what is told; else it goes back to look again.
func (e atEvent) lay(mark, kind, told int) func() api.Sys {
	return func() api.Sys {
		w, was := e.Swap(Spot(e.R[0]), e.R[1], lays()[e.Op], mark)
		if !was {
			return w.At(0)
		}
		return atEvent{w}.ends(kind, told)
	}
}

func (e atEvent) load() atEvent { return atEvent{e.Load(1, Spot(e.R[0]))} }

// ends is the system whose core has ended the op, with what took effect, which tells the same.
func (e atEvent) ends(kind, told int) api.Sys {
	return e.Log(kind, e.R[0], told).End(told, api.OK)
}
