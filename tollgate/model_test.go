package tollgate_test

import (
	"fmt"
	"math/rand"
	"slices"
	"testing"

	"tollgate/api"
	"tollgate/tollgate"
)

// model says again what the document's words say, with all tickets in one list and nothing counted ahead. It has readers if it is one of a hall.
type model struct {
	room, pass, readers int
	tickets             []modelTicket
}

// left is how many Ticks it is to wait still; below 0, if for ever.
type modelTicket struct{ weight, band, count, stands, left int }

func (m *model) held() int {
	sum := 0
	for _, x := range m.tickets {
		if x.stands == api.Holds {
			sum += x.weight
		}
	}
	return sum
}

// turn is the place of the one whose turn it is, or -1.
func (m *model) turn() int {
	for i, x := range m.tickets {
		if x.stands == api.Waits && x.count >= m.pass {
			return i
		}
	}
	for band := range api.Bands {
		for i, x := range m.tickets {
			if x.stands == api.Waits && x.band == band {
				return i
			}
		}
	}
	return -1
}

// queue takes away whose turn it is, again and again, from a copy.
func (m *model) queue() []int {
	rest := model{pass: m.pass, tickets: slices.Clone(m.tickets)}
	var tickets []int
	for i := rest.turn(); i >= 0; i = rest.turn() {
		tickets = append(tickets, i+1)
		rest.tickets[i].stands = api.Cancelled
	}
	return tickets
}

func (m *model) letIn() {
	for {
		i := m.turn()
		if i < 0 || m.held()+m.tickets[i].weight > m.room {
			return
		}
		m.tickets[i].stands = api.Holds
		for j := range i {
			if m.tickets[j].stands == api.Waits {
				m.tickets[j].count++
			}
		}
	}
}

func (m *model) ask(weight, band, wait int) (int, int, api.Errno) {
	if weight < 1 || weight > 100 {
		return 0, 0, api.ErrWeight
	}
	if band < 0 || band > 2 {
		return 0, 0, api.ErrBand
	}
	if wait < -1 || wait > 1000000 {
		return 0, 0, api.ErrWait
	}
	stands := api.Waits
	if m.turn() < 0 && m.held()+weight <= m.room {
		stands = api.Holds
	} else if wait == 0 {
		stands = api.Refused
	}
	m.tickets = append(m.tickets, modelTicket{weight: weight, band: band, stands: stands, left: wait})
	m.letIn()
	n := len(m.tickets)
	return n, m.tickets[n-1].stands, api.OK
}

func (m *model) give(ticket int) api.Errno {
	if ticket < 1 || ticket > len(m.tickets) {
		return api.ErrNone
	}
	if m.tickets[ticket-1].stands != api.Holds {
		return api.ErrState
	}
	m.tickets[ticket-1].stands = api.Done
	m.letIn()
	return api.OK
}

func (m *model) cancel(ticket int) api.Errno {
	if ticket < 1 || ticket > len(m.tickets) {
		return api.ErrNone
	}
	if m.tickets[ticket-1].stands != api.Waits {
		return api.ErrState
	}
	m.tickets[ticket-1].stands = api.Cancelled
	m.letIn()
	return api.OK
}

func (m *model) tick() {
	for i := range m.tickets {
		x := &m.tickets[i]
		x.left--
		if x.stands == api.Waits && x.left == 0 {
			x.stands = api.Late
		}
	}
	m.letIn()
}

func (m *model) resize(room int) api.Errno {
	if room < 0 || room > 1000 {
		return api.ErrRoom
	}
	m.room = room
	m.letIn()
	return api.OK
}

const (
	toAsk = iota
	toGive
	toCancel
	toTick
	toResize
	toRead
	toWrite
)

// step is one call; n is a ticket, or a room.
type step struct{ call, n, weight, band, wait int }

func (s step) String() string {
	switch s.call {
	case toGive:
		return fmt.Sprintf("Give(%d)", s.n)
	case toCancel:
		return fmt.Sprintf("Cancel(%d)", s.n)
	case toTick:
		return "Tick()"
	case toResize:
		return fmt.Sprintf("Resize(%d)", s.n)
	case toRead:
		return fmt.Sprintf("Read(%d)", s.wait)
	case toWrite:
		return fmt.Sprintf("Write(%d)", s.wait)
	}
	return fmt.Sprintf("Ask(%d, %d, %d)", s.weight, s.band, s.wait)
}

// sameAnswer makes the call on both, and says whether they answer alike.
func sameAnswer(g gate, m *model, s step) bool {
	switch s.call {
	case toGive:
		return g.Give(s.n) == m.give(s.n)
	case toCancel:
		return g.Cancel(s.n) == m.cancel(s.n)
	case toTick:
		g.Tick()
		m.tick()
		return true
	case toResize:
		return g.Resize(s.n) == m.resize(s.n)
	}
	n, stands, e := asks(g, s)
	n2, stands2, e2 := m.asks(s)
	return n == n2 && stands == stands2 && e == e2
}

// asks makes a call that has a ticket; to read or to write only a hall is asked.
func asks(g gate, s step) (int, int, api.Errno) {
	switch s.call {
	case toRead:
		return g.(*tollgate.Hall).Read(s.wait)
	case toWrite:
		return g.(*tollgate.Hall).Write(s.wait)
	}
	return g.Ask(s.weight, s.band, s.wait)
}

func (m *model) asks(s step) (int, int, api.Errno) {
	switch s.call {
	case toRead:
		return m.ask(1, 1, s.wait)
	case toWrite:
		return m.ask(m.readers, 0, s.wait)
	}
	return m.ask(s.weight, s.band, s.wait)
}

// sameStand says whether all tickets, what is held and who waits are alike; also that nobody was passed by too often.
func sameStand(g gate, m *model) bool {
	for i, x := range m.tickets {
		if stands, e := g.State(i + 1); stands != x.stands || e != api.OK || x.count > m.pass {
			return false
		}
	}
	if _, e := g.State(len(m.tickets) + 1); e != api.ErrNone || g.Held() != m.held() {
		return false
	}
	queue := g.Queue()
	same := slices.Equal(queue, m.queue())
	scribble(queue)
	return same
}

func follow(t *testing.T, room, pass int, steps []step) {
	t.Helper()
	keepUp(t, begin(t, room, pass), &model{room: room, pass: pass}, steps)
}

func followHall(t *testing.T, readers, pass int, steps []step) {
	t.Helper()
	keepUp(t, beginHall(t, readers, pass), &model{room: readers, pass: pass, readers: readers}, steps)
}

func keepUp(t *testing.T, g gate, m *model, steps []step) {
	t.Helper()
	room := m.room
	for i, s := range steps {
		if !sameAnswer(g, m, s) || !sameStand(g, m) {
			t.Fatalf("%T, room %d, bound %d: behind %v it is not as the model: %+v, Held %d, Queue %v", g, room, m.pass, steps[:i+1], m.tickets, g.Held(), g.Queue())
		}
	}
}

// TestAllShortRuns goes through every run of a few calls of a small choice.
func TestAllShortRuns(t *testing.T) {
	for _, choice := range [][]step{{
		{weight: 1, band: 0, wait: api.Forever}, {weight: 1, band: 1, wait: 1}, {weight: 2, band: 1, wait: api.Forever},
		{weight: 2, band: 2, wait: api.MaxWait}, {weight: 1, band: 2, wait: api.Forever}, {weight: 1, band: 0, wait: 0},
		{call: toGive, n: 1}, {call: toGive, n: 2}, {call: toGive, n: 3},
	}, {
		{weight: 1, band: 0, wait: 1}, {weight: 2, band: 1, wait: 2}, {weight: 1, band: 2, wait: api.Forever},
		{call: toGive, n: 1}, {call: toCancel, n: 1}, {call: toCancel, n: 2}, {call: toTick},
		{call: toResize, n: 0}, {call: toResize, n: 2},
	}} {
		for room := range 4 {
			for pass := range 3 {
				allRuns(5, choice, func(steps []step) { follow(t, room, pass, steps) })
			}
		}
	}
}

// TestAllShortRunsOfAHall has a hall's own calls, and the promoted ones among them.
func TestAllShortRunsOfAHall(t *testing.T) {
	for _, choice := range [][]step{{
		{call: toRead, wait: api.Forever}, {call: toRead, wait: 1}, {call: toWrite, wait: 0}, {call: toWrite, wait: api.Forever},
		{call: toGive, n: 1}, {call: toGive, n: 2}, {call: toGive, n: 3}, {call: toCancel, n: 2}, {call: toTick},
	}, {
		{call: toRead, wait: 0}, {call: toRead, wait: api.MaxWait}, {call: toWrite, wait: 2}, {call: toWrite, wait: api.Forever},
		{weight: 1, band: 0, wait: api.Forever}, {weight: 2, band: 2, wait: api.Forever},
		{call: toGive, n: 1}, {call: toResize, n: 1}, {call: toResize, n: 4},
	}} {
		for readers := range 3 {
			for pass := range 3 {
				allRuns(5, choice, func(steps []step) { followHall(t, readers+1, pass, steps) })
			}
		}
	}
}

// allRuns hands out one list again and again, written anew for each run.
func allRuns(length int, choice []step, each func(steps []step)) {
	steps := make([]step, length)
	runs := 1
	for range steps {
		runs *= len(choice)
	}
	for run := range runs {
		for i := range steps {
			steps[i] = choice[run%len(choice)]
			run /= len(choice)
		}
		each(steps)
	}
}

// TestLongRuns goes through long runs, always the same ones, with wrong calls among them.
func TestLongRuns(t *testing.T) {
	for seed := range 1500 {
		r := rand.New(rand.NewSource(int64(seed)))
		room, pass := r.Intn(25), r.Intn(6)
		if seed%50 == 0 {
			room, pass = api.MaxRoom, api.MaxPass
		}
		follow(t, room, pass, longRun(120, func(i int) step { return anyStep(r, i, room) }))
	}
}

func TestLongRunsOfAHall(t *testing.T) {
	for seed := range 1500 {
		r := rand.New(rand.NewSource(int64(seed)))
		readers, pass := 1+r.Intn(12), r.Intn(6)
		if seed%50 == 0 {
			readers, pass = api.MaxWeight, api.MaxPass
		}
		followHall(t, readers, pass, longRun(120, func(i int) step {
			if r.Intn(3) == 0 {
				return anyStep(r, i, readers)
			}
			return hallStep(r, i)
		}))
	}
}

func longRun(length int, next func(i int) step) []step {
	steps := make([]step, length)
	for i := range steps {
		steps[i] = next(i)
	}
	return steps
}

// hallStep is one of those behind which a writer is alone: no Ask, and no Resize.
func hallStep(r *rand.Rand, tickets int) step {
	waits := []int{-1, -1, -1, -1, 0, 1, 2, 3, 5, 8, 1000000, -2, 1000001, least, most}
	switch r.Intn(10) {
	case 0, 1, 2:
		return step{call: toRead, wait: waits[r.Intn(len(waits))]}
	case 3, 4:
		return step{call: toWrite, wait: waits[r.Intn(len(waits))]}
	case 5:
		return step{call: toTick}
	case 6:
		return step{call: toCancel, n: 1 + r.Intn(tickets+1)}
	}
	return step{call: toGive, n: 1 + r.Intn(tickets+1)}
}

func anyStep(r *rand.Rand, tickets, room int) step {
	wrong := []int{least, -2, -1, 0, 101, 1001, 1000001, most}
	switch r.Intn(40) {
	case 0, 1, 2, 3:
		return wrongAsk(r, room, wrong[r.Intn(len(wrong))])
	case 4, 5, 6:
		return step{call: []int{toGive, toCancel, toResize}[r.Intn(3)], n: wrong[r.Intn(len(wrong))]}
	case 7, 8, 9:
		return step{call: toResize, n: min(r.Intn(room+5), api.MaxRoom)}
	case 10, 11, 12, 13:
		return step{call: toCancel, n: 1 + r.Intn(tickets+1)}
	case 14, 15, 16, 17:
		return step{call: toTick}
	case 18, 19, 20, 21, 22, 23, 24, 25, 26:
		return step{call: toGive, n: 1 + r.Intn(tickets+1)}
	}
	return anyAsk(r, room)
}

func anyAsk(r *rand.Rand, room int) step {
	heaviest := min(room/3+2, api.MaxWeight)
	waits := []int{-1, -1, -1, -1, 0, 1, 2, 3, 5, 8, 1000000}
	return step{weight: 1 + r.Intn(heaviest), band: r.Intn(api.Bands), wait: waits[r.Intn(len(waits))]}
}

func wrongAsk(r *rand.Rand, room, wrong int) step {
	s := anyAsk(r, room)
	*[]*int{&s.weight, &s.band, &s.wait}[r.Intn(3)] = wrong
	return s
}
