package tollgate

import "tollgate/api"

// record is what is kept of a ticket for good.
type record struct {
	weight int
	stands int           // how it stands, unless it waits: that its channel alone tells
	over   chan struct{} // nil, if it never waited
}

// waiter is what is kept of a ticket only as long as it waits.
type waiter struct {
	ticket int
	record *record
	band   int
	count  int // how often it was passed by
	until  int // the time at which it is late, or api.Forever
}

// ranks is how many there are: one for the bound, and one for each band.
const ranks = 1 + api.Bands

// rank says whose turn comes first: the lowest one's, and of equals the earliest's.
func (w *waiter) rank(pass int) int {
	if w.count >= pass {
		return 0
	}
	return 1 + w.band
}

// settle tells how a ticket stands that does not wait, or from now on waits no more.
func (r *record) settle(stands int) {
	r.stands = stands
	if r.waits() {
		close(r.over)
	}
}

func (r *record) waits() bool {
	if r.over == nil {
		return false
	}
	select {
	case <-r.over:
		return false
	default:
		return true
	}
}

func (r *record) state() int {
	if r.waits() {
		return api.Waits
	}
	return r.stands
}
