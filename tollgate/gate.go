package tollgate

import (
	"tollgate/api"
	"tollgate/list"
)

// The functions of this file are called with the gate's mutex taken.

func checkAsk(weight int, band int, wait int) api.Errno {
	switch {
	case weight < 1 || weight > api.MaxWeight:
		return api.ErrWeight
	case band < 0 || band >= api.Bands:
		return api.ErrBand
	case wait != api.Forever && (wait < 0 || wait > api.MaxWait):
		return api.ErrWait
	}
	return api.OK
}

func (g *Gate) find(ticket int) (*record, api.Errno) {
	if ticket < 1 || ticket > len(g.tickets) {
		return nil, api.ErrNone
	}
	return g.tickets[ticket-1], api.OK
}

// give is Give, with a result that has a name: a panic, caught, must become an error.
func (g *Gate) give(ticket int) (e api.Errno) {
	defer func() {
		if recover() != nil {
			e = api.ErrState
		}
	}()
	r, e := g.find(ticket)
	if e != api.OK {
		return e
	}
	if r.state() != api.Holds {
		return api.ErrState
	}
	g.release(r)
	g.letIn()
	return api.OK
}

func (g *Gate) fits(weight int) bool { return g.held+weight <= g.room }

func (g *Gate) hold(r *record) {
	g.held += r.weight
	r.settle(api.Holds)
}

// release panics ahead of changing anything, so that Give's error leaves the gate as it was.
func (g *Gate) release(r *record) {
	if g.held < r.weight {
		panic("less held than nothing")
	}
	g.held -= r.weight
	r.settle(api.Done)
}

func (g *Gate) enqueue(r *record, band int, wait int) {
	until := api.Forever
	if wait != api.Forever {
		until = g.now + wait
	}
	r.over = make(chan struct{})
	g.waiting.Append(waiter{ticket: r, band: band, until: until})
}

// letIn goes on after each that it lets in: the counts have changed, and so may whose turn it is.
func (g *Gate) letIn() {
	for n := g.turn(); n != nil && g.fits(n.Value.ticket.weight); n = g.turn() {
		g.passBy(n)
		g.waiting.Take(n)
		g.hold(n.Value.ticket)
	}
}

// turn finds whose turn it is; nil, if nobody waits.
func (g *Gate) turn() *list.Node[waiter] {
	var best *list.Node[waiter]
	for n := g.waiting.First(); n != nil; n = n.Next() {
		if n.Value.count >= g.pass {
			return n
		}
		if best == nil || n.Value.band < best.Value.band {
			best = n
		}
	}
	return best
}

// passBy counts for all that came earlier than the one that is let in: they stand ahead of it.
func (g *Gate) passBy(in *list.Node[waiter]) {
	for n := g.waiting.First(); n != in; n = n.Next() {
		n.Value.count++
	}
}
