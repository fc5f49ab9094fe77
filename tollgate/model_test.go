package tollgate_test

import (
	"math/rand"
	"testing"

	"tollgate/api"
	"tollgate/tollgate"
)

// model says again what the document's words say, with all tickets in one list and nothing counted ahead.
type model struct {
	room, pass int
	tickets    []modelTicket
}

type modelTicket struct{ weight, band, count, stands int }

func (m *model) held() int {
	sum := 0
	for _, x := range m.tickets {
		if x.stands == api.Holds {
			sum += x.weight
		}
	}
	return sum
}

// turn is the place of the one whose turn it is, or -1.
func (m *model) turn() int {
	for i, x := range m.tickets {
		if x.stands == api.Waits && x.count >= m.pass {
			return i
		}
	}
	for band := range api.Bands {
		for i, x := range m.tickets {
			if x.stands == api.Waits && x.band == band {
				return i
			}
		}
	}
	return -1
}

func (m *model) letIn() {
	for {
		i := m.turn()
		if i < 0 || m.held()+m.tickets[i].weight > m.room {
			return
		}
		m.tickets[i].stands = api.Holds
		for j := range i {
			if m.tickets[j].stands == api.Waits {
				m.tickets[j].count++
			}
		}
	}
}

func (m *model) ask(weight, band, wait int) (int, int, api.Errno) {
	if weight < 1 || weight > 100 {
		return 0, 0, api.ErrWeight
	}
	if band < 0 || band > 2 {
		return 0, 0, api.ErrBand
	}
	if wait < -1 || wait > 1000000 {
		return 0, 0, api.ErrWait
	}
	stands := api.Waits
	if m.turn() < 0 && m.held()+weight <= m.room {
		stands = api.Holds
	} else if wait == 0 {
		stands = api.Refused
	}
	m.tickets = append(m.tickets, modelTicket{weight: weight, band: band, stands: stands})
	m.letIn()
	n := len(m.tickets)
	return n, m.tickets[n-1].stands, api.OK
}

func (m *model) give(ticket int) api.Errno {
	if ticket < 1 || ticket > len(m.tickets) {
		return api.ErrNone
	}
	if m.tickets[ticket-1].stands != api.Holds {
		return api.ErrState
	}
	m.tickets[ticket-1].stands = api.Done
	m.letIn()
	return api.OK
}

// step is one call: Give of the ticket, or else Ask.
type step struct {
	give                       bool
	ticket, weight, band, wait int
}

// same makes the call on both, and says whether they answer and stand alike; also that nobody was passed by too often.
func same(g *tollgate.Gate, m *model, s step) bool {
	if s.give {
		if g.Give(s.ticket) != m.give(s.ticket) {
			return false
		}
	} else {
		n, stands, e := g.Ask(s.weight, s.band, s.wait)
		n2, stands2, e2 := m.ask(s.weight, s.band, s.wait)
		if n != n2 || stands != stands2 || e != e2 {
			return false
		}
	}
	for i, x := range m.tickets {
		if stands, e := g.State(i + 1); stands != x.stands || e != api.OK || x.count > m.pass {
			return false
		}
	}
	_, e := g.State(len(m.tickets) + 1)
	return e == api.ErrNone && g.Held() == m.held() && m.held() <= m.room
}

func follow(t *testing.T, room, pass int, steps []step) {
	t.Helper()
	g, m := begin(t, room, pass), &model{room: room, pass: pass}
	for i, s := range steps {
		if !same(g, m, s) {
			t.Fatalf("New(%d, %d): behind %+v the gate is not as the model: %+v, Held %d", room, pass, steps[:i+1], m.tickets, g.Held())
		}
	}
}

// TestAllShortRuns goes through every run of five calls of a small choice.
func TestAllShortRuns(t *testing.T) {
	choice := []step{
		{weight: 1, band: 0, wait: api.Forever}, {weight: 1, band: 1, wait: 1}, {weight: 2, band: 1, wait: api.Forever},
		{weight: 2, band: 2, wait: api.MaxWait}, {weight: 1, band: 2, wait: api.Forever}, {weight: 1, band: 0, wait: 0},
		{give: true, ticket: 1}, {give: true, ticket: 2}, {give: true, ticket: 3},
	}
	steps := make([]step, 5)
	runs := 1
	for range steps {
		runs *= len(choice)
	}
	for room := range 4 {
		for pass := range 3 {
			for run := range runs {
				for i := range steps {
					steps[i] = choice[run%len(choice)]
					run /= len(choice)
				}
				follow(t, room, pass, steps)
			}
		}
	}
}

// TestLongRuns goes through long runs, always the same ones, with wrong calls among them.
func TestLongRuns(t *testing.T) {
	for seed := range 1500 {
		r := rand.New(rand.NewSource(int64(seed)))
		room, pass := r.Intn(25), r.Intn(6)
		if seed%50 == 0 {
			room, pass = api.MaxRoom, api.MaxPass
		}
		steps := make([]step, 120)
		for i := range steps {
			steps[i] = anyStep(r, i, room)
		}
		follow(t, room, pass, steps)
	}
}

func anyStep(r *rand.Rand, tickets, room int) step {
	wrong := []int{least, -2, -1, 0, 101, 1000001, most}
	heaviest := min(room/3+2, api.MaxWeight)
	s := step{weight: 1 + r.Intn(heaviest), band: r.Intn(api.Bands), wait: []int{-1, -1, -1, 0, 1, 1000000}[r.Intn(6)]}
	switch r.Intn(20) {
	case 0:
		s.weight = wrong[r.Intn(len(wrong))]
	case 1:
		s.band = wrong[r.Intn(len(wrong))]
	case 2:
		s.wait = wrong[r.Intn(len(wrong))]
	case 3:
		return step{give: true, ticket: wrong[r.Intn(len(wrong))]}
	case 4, 5, 6, 7, 8, 9, 10, 11:
		return step{give: true, ticket: 1 + r.Intn(tickets+1)}
	}
	return s
}
