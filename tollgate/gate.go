package tollgate

import (
	"tollgate/api"
	"tollgate/list"
)

// The methods of this file are called with the gate's mutex taken.

func checkRoom(room int) api.Errno {
	if room < 0 || room > api.MaxRoom {
		return api.ErrRoom
	}
	return api.OK
}

// checkReaders asks for less than checkRoom: a writer's weight is that of all readers, and none may be above MaxWeight.
func checkReaders(readers int) api.Errno {
	if readers < 1 || readers > api.MaxWeight {
		return api.ErrRoom
	}
	return api.OK
}

func checkPass(pass int) api.Errno {
	if pass < 0 || pass > api.MaxPass {
		return api.ErrPass
	}
	return api.OK
}

func checkAsk(weight int, band int, wait int) api.Errno {
	switch {
	case weight < 1 || weight > api.MaxWeight:
		return api.ErrWeight
	case band < 0 || band >= api.Bands:
		return api.ErrBand
	case wait != api.Forever && (wait < 0 || wait > api.MaxWait):
		return api.ErrWait
	}
	return api.OK
}

func (g *Gate) find(ticket int) (*record, api.Errno) {
	if ticket < 1 || ticket > len(g.tickets) {
		return nil, api.ErrNone
	}
	return g.tickets[ticket-1], api.OK
}

// give is Give, with a result that has a name: a panic, caught, must become an error.
func (g *Gate) give(ticket int) (e api.Errno) {
	defer func() {
		if recover() != nil {
			e = api.ErrState
		}
	}()
	r, e := g.find(ticket)
	if e != api.OK {
		return e
	}
	if r.state() != api.Holds {
		return api.ErrState
	}
	g.release(r)
	g.letIn()
	return api.OK
}

func (g *Gate) fits(weight int) bool { return g.held+weight <= g.room }

func (g *Gate) hold(r *record) {
	g.held += r.weight
	r.settle(api.Holds)
}

// release panics ahead of changing anything, so that Give's error leaves the gate as it was.
func (g *Gate) release(r *record) {
	if g.held < r.weight {
		panic("less held than nothing")
	}
	g.held -= r.weight
	r.settle(api.Done)
}

func (g *Gate) enqueue(ticket int, band int, wait int) {
	until := api.Forever
	if wait != api.Forever {
		until = g.now + wait
	}
	r := g.tickets[ticket-1]
	r.over = make(chan struct{})
	g.waiting.Append(waiter{ticket: ticket, record: r, band: band, until: until})
}

// place finds where a ticket waits; nil, if it does not.
func (g *Gate) place(ticket int) *list.Node[waiter] {
	n := g.waiting.First()
	for n != nil && n.Value.ticket != ticket {
		n = n.Next()
	}
	return n
}

// leave is for those that wait no more, but are not let in: nobody is passed by.
func (g *Gate) leave(n *list.Node[waiter], stands int) {
	g.waiting.Take(n)
	n.Value.record.settle(stands)
}

// dropLate asks for the very time: each Tick drops its own, and Forever, below 0, is no time that comes.
func (g *Gate) dropLate() {
	var next *list.Node[waiter]
	for n := g.waiting.First(); n != nil; n = next {
		next = n.Next() // a node that was taken out knows no next one
		if n.Value.until == g.now {
			g.leave(n, api.Late)
		}
	}
}

// letIn goes on after each that it lets in: the counts have changed, and so may whose turn it is.
func (g *Gate) letIn() {
	for n := g.turn(); n != nil && g.fits(n.Value.record.weight); n = g.turn() {
		g.passBy(n)
		g.waiting.Take(n)
		g.hold(n.Value.record)
	}
}

// turn finds whose turn it is; nil, if nobody waits.
func (g *Gate) turn() *list.Node[waiter] {
	best := g.waiting.First()
	for n := best; n != nil; n = n.Next() {
		if n.Value.rank(g.pass) < best.Value.rank(g.pass) {
			best = n
		}
	}
	return best
}

// turns goes by rank, and not by turn again and again: that one goes changes no other's rank.
func (g *Gate) turns() []int {
	var tickets []int
	for rank := range ranks {
		for n := g.waiting.First(); n != nil; n = n.Next() {
			if n.Value.rank(g.pass) == rank {
				tickets = append(tickets, n.Value.ticket)
			}
		}
	}
	return tickets
}

// passBy counts for all that came earlier than the one that is let in: they stand ahead of it.
func (g *Gate) passBy(in *list.Node[waiter]) {
	for n := g.waiting.First(); n != in; n = n.Next() {
		n.Value.count++
	}
}
