package term

import (
	"math/bits"

	"prolix/api"
)

// most is how many parts a way goes through: beyond that nothing is promised. A part that has no end is told to lie so deep.
const most = 1<<31 - 1

// through hands the parts of terms to found, from the left, each ahead of its Args, with how deep it lies, as long as found says so.
//
// It keeps its way itself: terms may be deeper than calls. And it ends, though a list may hold itself.
func through(found func(part *api.Term, deep int) bool, l ...api.Term) {
	w := from(l...)
	for range most {
		part := w.next()
		deep := w.deep()
		if part == nil || !found(part, deep) || deep == most {
			return
		}
	}
}

// way is a way through terms, from above them down to where it has come.
type way []step

// step is a part whose Args are gone through.
type step struct {
	part *api.Term
	next int // the place of the one that comes next
}

// from is a way that stands ahead of these terms.
func from(l ...api.Term) way {
	return way{{part: &api.Term{Args: l}}}
}

// next goes on to the next part; there is none, if it is nil.
func (w *way) next() *api.Term {
	for len(*w) > 0 {
		last := &(*w)[len(*w)-1]
		if last.next < len(last.part.Args) {
			part := &last.part.Args[last.next]
			last.next++
			*w = append(*w, step{part: part})
			return part
		}
		*w = (*w)[:len(*w)-1]
	}
	return nil
}

// deep is how deep the part lies to which the way has come.
func (w *way) deep() int {
	deep := len(*w) - 1
	if w.within(deep) {
		return most
	}
	return deep
}

// within says whether a part that lies so deep stands within itself.
//
// It is held against one part above it alone, at a power of 2: on a way without end the same parts come again and again, so some time that one does.
func (w *way) within(deep int) bool {
	if deep < 2 {
		return false
	}
	above := 1 << (bits.Len(uint(deep-1)) - 1)
	return (*w)[above].part == (*w)[deep].part
}
