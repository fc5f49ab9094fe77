// Package tollgate: a gate with room for so much, and who comes next: see DOC.md.
package tollgate

import (
	"sync"

	"tollgate/api"
	"tollgate/list"
)

// Gate is a gate.
type Gate struct {
	mutex   sync.Mutex
	room    int
	pass    int
	now     int
	held    int
	tickets []*record         // the ticket n is at n - 1
	waiting list.List[waiter] // the earliest first
}

// New makes a gate (P3).
func New(room int, pass int) (*Gate, api.Errno) {
	if e := checkRoom(room); e != api.OK {
		return nil, e
	}
	if e := checkPass(pass); e != api.OK {
		return nil, e
	}
	return &Gate{room: room, pass: pass}, api.OK
}

// Ask asks for a weight (P4).
func (g *Gate) Ask(weight int, band int, wait int) (int, int, api.Errno) {
	g.mutex.Lock()
	defer g.mutex.Unlock()
	if e := checkAsk(weight, band, wait); e != api.OK {
		return 0, 0, e
	}
	r := &record{weight: weight}
	g.tickets = append(g.tickets, r)
	switch {
	case g.waiting.First() == nil && g.fits(weight):
		g.hold(r)
	case wait == 0:
		r.settle(api.Refused)
	default:
		g.enqueue(len(g.tickets), band, wait)
		g.letIn()
	}
	return len(g.tickets), r.state(), api.OK
}

// State tells how a ticket stands (P4).
func (g *Gate) State(ticket int) (int, api.Errno) {
	g.mutex.Lock()
	defer g.mutex.Unlock()
	r, e := g.find(ticket)
	if e != api.OK {
		return 0, e
	}
	return r.state(), api.OK
}

// Give gives back what a ticket holds (P5).
func (g *Gate) Give(ticket int) api.Errno {
	g.mutex.Lock()
	defer g.mutex.Unlock()
	return g.give(ticket)
}

// Cancel lets a ticket wait no longer (P6).
func (g *Gate) Cancel(ticket int) api.Errno {
	g.mutex.Lock()
	defer g.mutex.Unlock()
	r, e := g.find(ticket)
	if e != api.OK {
		return e
	}
	if !r.waits() {
		return api.ErrState
	}
	g.leave(g.place(ticket), api.Cancelled)
	g.letIn()
	return api.OK
}

// Tick lets time go by (P6).
func (g *Gate) Tick() {
	g.mutex.Lock()
	defer g.mutex.Unlock()
	g.now++
	g.dropLate()
	g.letIn()
}

// Resize gives the gate another room (P6).
func (g *Gate) Resize(room int) api.Errno {
	g.mutex.Lock()
	defer g.mutex.Unlock()
	if e := checkRoom(room); e != api.OK {
		return e
	}
	g.room = room
	g.letIn()
	return api.OK
}

// Held tells what all tickets hold together (P7).
func (g *Gate) Held() int {
	g.mutex.Lock()
	defer g.mutex.Unlock()
	return g.held
}

// Queue tells the tickets that wait, in the order of their turns (P7).
func (g *Gate) Queue() []int {
	g.mutex.Lock()
	defer g.mutex.Unlock()
	return g.turns()
}

const (
	writeBand = 0
	readBand  = 1
)

// Hall is a gate for readers and writers.
type Hall struct {
	Gate
	readers int // a writer's weight: Resize changes the gate's room, and not this
}

// NewHall makes one for so many readers (P8).
func NewHall(readers int, pass int) (*Hall, api.Errno) {
	if e := checkReaders(readers); e != api.OK {
		return nil, e
	}
	if e := checkPass(pass); e != api.OK {
		return nil, e
	}
	return &Hall{Gate: Gate{room: readers, pass: pass}, readers: readers}, api.OK
}

// Read and Write ask to come in (P8).
func (h *Hall) Read(wait int) (int, int, api.Errno)  { return h.Ask(1, readBand, wait) }
func (h *Hall) Write(wait int) (int, int, api.Errno) { return h.Ask(h.readers, writeBand, wait) }
