package tollgate_test

import (
	"fmt"
	"math/rand"
	"slices"
	"testing"

	"tollgate/api"
)

// watch looks at a gate from outside, call by call, and says what of P9 is broken: it knows what was asked for, and how the tickets stand, and no more.
type watch struct {
	g          gate
	room, pass int
	readers    int  // 0, if it is no hall
	mixed      bool // a hall no longer as it was: it has another room, or somebody asked but to read or to write
	tickets    []seen
	latest     int            // of all that came in
	tally      map[string]int // how often there was something to look at
}

type seen struct {
	weight, band, wait int
	writes             bool
	stands             int // behind the last call; 0 ahead of the first look
	count              int // how often it was passed by
}

// look makes a call, and tells what is broken behind it, or nothing.
func (w *watch) look(s step) string {
	waited, held := w.turn() >= 0, w.held()
	number := w.call(s)
	came := w.whoCame()
	for _, fault := range []string{
		w.noRoom(came), w.refusedFreely(number, waited, held), w.passedBy(came), w.turnFits(), w.outOfOrder(came), w.notAlone(),
	} {
		if fault != "" {
			return fault
		}
	}
	return ""
}

// call tells the ticket that was had, or 0.
func (w *watch) call(s step) int {
	switch s.call {
	case toGive:
		w.g.Give(s.n)
	case toCancel:
		w.g.Cancel(s.n)
	case toTick:
		w.g.Tick()
	case toResize:
		if w.g.Resize(s.n) == api.OK {
			w.mixed = w.mixed || s.n != w.room
			w.room = s.n
		}
	default:
		n, _, e := asks(w.g, s)
		if e == api.OK {
			w.tickets = append(w.tickets, w.ticket(s))
		}
		return n
	}
	return 0
}

func (w *watch) ticket(s step) seen {
	switch s.call {
	case toRead:
		return seen{weight: 1, band: 1, wait: s.wait}
	case toWrite:
		return seen{weight: w.readers, band: 0, wait: s.wait, writes: true}
	}
	w.mixed = true
	return seen{weight: s.weight, band: s.band, wait: s.wait}
}

// whoCame looks at all tickets anew, and tells those that hold only since then.
func (w *watch) whoCame() []int {
	var came []int
	for i := range w.tickets {
		stands, _ := w.g.State(i + 1)
		if stands == api.Holds && w.tickets[i].stands != api.Holds {
			came = append(came, i+1)
		}
		w.tickets[i].stands = stands
	}
	return came
}

func (w *watch) held() int {
	sum := 0
	for _, x := range w.tickets {
		if x.stands == api.Holds {
			sum += x.weight
		}
	}
	return sum
}

// turn is the place of the one whose turn it is, or -1.
func (w *watch) turn() int {
	best := -1
	for i, x := range w.tickets {
		switch {
		case x.stands != api.Waits:
		case x.count >= w.pass:
			return i
		case best < 0 || x.band < w.tickets[best].band:
			best = i
		}
	}
	return best
}

func (w *watch) noRoom(came []int) string {
	if held := w.held(); len(came) > 0 && held > w.room {
		return fmt.Sprintf("%v were let in, so that %d is held, and the room is %d", came, held, w.room)
	}
	return ""
}

func (w *watch) refusedFreely(number int, waited bool, held int) string {
	if number == 0 || w.tickets[number-1].stands != api.Refused {
		return ""
	}
	w.tally["refused"]++
	if x := w.tickets[number-1]; x.wait != 0 || !waited && held+x.weight <= w.room {
		return fmt.Sprintf("%d was refused, with the wait %d and %d held of %d; somebody waits: %v", number, x.wait, held, w.room, waited)
	}
	return ""
}

// passedBy counts for those that wait still: of the others it can't be seen who of the same call came first.
func (w *watch) passedBy(came []int) string {
	for _, n := range came {
		for i := range w.tickets[:n-1] {
			x := &w.tickets[i]
			if x.stands != api.Waits {
				continue
			}
			x.count++
			if x.count == w.pass {
				w.tally["at the bound"]++
			}
			if x.count > w.pass {
				return fmt.Sprintf("%d was passed by %d times", i+1, x.count)
			}
		}
	}
	return ""
}

func (w *watch) turnFits() string {
	i := w.turn()
	if i < 0 {
		return ""
	}
	w.tally["somebody waits"]++
	if w.held()+w.tickets[i].weight <= w.room {
		return fmt.Sprintf("it is the turn of %d, and there is room for it, and it waits", i+1)
	}
	return ""
}

func (w *watch) outOfOrder(came []int) string {
	if w.pass > 0 || len(came) == 0 {
		return ""
	}
	w.tally["in order"]++
	waits := slices.IndexFunc(w.tickets, func(x seen) bool { return x.stands == api.Waits }) + 1
	last := came[len(came)-1]
	if came[0] < w.latest || waits > 0 && waits < last {
		return fmt.Sprintf("%v came in behind %d, and %d waits still", came, w.latest, waits)
	}
	w.latest = last
	return ""
}

func (w *watch) notAlone() string {
	if w.readers == 0 || w.mixed {
		return ""
	}
	var holders []int
	writes := false
	for i, x := range w.tickets {
		if x.stands == api.Holds {
			holders = append(holders, i+1)
			writes = writes || x.writes
		}
	}
	if writes {
		w.tally["a writer"]++
	}
	if writes && len(holders) > 1 {
		return fmt.Sprintf("a writer is not alone: %v hold", holders)
	}
	return ""
}

// one is a ticket that stands so, or, if there is none, any.
func (w *watch) one(r *rand.Rand, stands int) int {
	var all []int
	for i, x := range w.tickets {
		if x.stands == stands {
			all = append(all, i+1)
		}
	}
	if len(all) == 0 {
		return r.Intn(len(w.tickets) + 2)
	}
	return all[r.Intn(len(all))]
}

// next is a call that mostly changes something.
func (w *watch) next(r *rand.Rand, asks func() step) step {
	switch r.Intn(20) {
	case 0, 1, 2, 3, 4, 5:
		return step{call: toGive, n: w.one(r, api.Holds)}
	case 6:
		return step{call: toCancel, n: w.one(r, api.Waits)}
	case 7:
		return step{call: toTick}
	}
	return asks()
}

// goOn makes calls, and fails at the first behind which something is broken.
func (w *watch) goOn(t *testing.T, length int, next func() step) {
	t.Helper()
	var steps []step
	room := w.room
	for range length {
		steps = append(steps, next())
		if fault := w.look(steps[len(steps)-1]); fault != "" {
			t.Fatalf("P9: %T, room %d, bound %d: behind %v: %s", w.g, room, w.pass, steps, fault)
		}
	}
}

// checkTally is for runs that would show nothing, and so break nothing.
func checkTally(t *testing.T, tally map[string]int, things ...string) {
	t.Helper()
	for _, thing := range things {
		if tally[thing] < 1000 {
			t.Errorf("the runs show %q only %d times", thing, tally[thing])
		}
	}
}

func TestWhatComesOfAGate(t *testing.T) {
	tally := map[string]int{}
	for seed := range 1500 {
		r := rand.New(rand.NewSource(int64(seed)))
		room, pass := r.Intn(25), r.Intn(5)
		w := &watch{g: begin(t, room, pass), room: room, pass: pass, tally: tally}
		w.goOn(t, 150, func() step {
			return w.next(r, func() step {
				if r.Intn(12) == 0 {
					return step{call: toResize, n: r.Intn(room + 5)}
				}
				return anyAsk(r, room)
			})
		})
	}
	checkTally(t, tally, "refused", "at the bound", "somebody waits", "in order")
}

func TestWhatComesOfAHall(t *testing.T) {
	tally := map[string]int{}
	for seed := range 1500 {
		r := rand.New(rand.NewSource(int64(seed)))
		readers, pass := 1+r.Intn(6), r.Intn(5)
		w := &watch{g: beginHall(t, readers, pass), room: readers, readers: readers, pass: pass, tally: tally}
		w.goOn(t, 150, func() step {
			return w.next(r, func() step {
				if r.Intn(12) == 0 {
					return step{call: toResize, n: []int{readers, -1, api.MaxRoom + 1}[r.Intn(3)]} // the room stays as it was
				}
				return step{call: toRead + r.Intn(2), wait: anyAsk(r, 1).wait}
			})
		})
	}
	checkTally(t, tally, "refused", "at the bound", "somebody waits", "in order", "a writer")
}

// Asks and other rooms among the readers and the writers: all but the writers' being alone comes still.
func TestWhatComesOfAMixedHall(t *testing.T) {
	tally := map[string]int{}
	for seed := range 1000 {
		r := rand.New(rand.NewSource(int64(seed)))
		readers, pass := 1+r.Intn(12), r.Intn(5)
		w := &watch{g: beginHall(t, readers, pass), room: readers, readers: readers, pass: pass, tally: tally}
		w.goOn(t, 150, func() step {
			return w.next(r, func() step {
				switch r.Intn(10) {
				case 0:
					return step{call: toResize, n: r.Intn(2*readers + 2)}
				case 1, 2, 3:
					return anyAsk(r, readers)
				}
				return step{call: toRead + r.Intn(2), wait: anyAsk(r, 1).wait}
			})
		})
	}
	checkTally(t, tally, "refused", "at the bound", "somebody waits", "in order")
}

// With a bound of nothing a writer does not go ahead of readers: all come in the order in which they asked.
func TestHallWithABoundOfNothing(t *testing.T) {
	h := beginHall(t, 2, 0)
	write(t, h, api.Forever, 1, api.Holds)
	read(t, h, api.Forever, 2, api.Waits)
	write(t, h, api.Forever, 3, api.Waits)
	read(t, h, api.Forever, 4, api.Waits)
	read(t, h, api.Forever, 5, api.Waits)
	write(t, h, api.Forever, 6, api.Waits)
	queue(t, h, 2, 3, 4, 5, 6)
	give(t, h, 1, api.OK)
	stands(t, h, 1, api.Done, api.Holds, api.Waits, api.Waits, api.Waits, api.Waits)
	give(t, h, 2, api.OK)
	stands(t, h, 2, api.Done, api.Done, api.Holds, api.Waits, api.Waits, api.Waits)
	give(t, h, 3, api.OK)
	stands(t, h, 2, api.Done, api.Done, api.Done, api.Holds, api.Holds, api.Waits)
	give(t, h, 5, api.OK)
	stands(t, h, 1, api.Done, api.Done, api.Done, api.Holds, api.Done, api.Waits)
	give(t, h, 4, api.OK)
	stands(t, h, 2, api.Done, api.Done, api.Done, api.Done, api.Done, api.Holds)
}

// A low band is passed by as often as the bound says by ones that come in at once, and then by none, though they would fit.
func TestPassedByAtMostAsTheBoundSays(t *testing.T) {
	for pass := range api.MaxPass + 1 {
		g := begin(t, 3, pass)
		ask(t, g, 2, 2, api.Forever, 1, api.Holds)
		ask(t, g, 2, 2, api.Forever, 2, api.Waits)
		for i := range pass {
			ask(t, g, 1, i%2, api.Forever, 3+i, api.Holds)
			give(t, g, 3+i, api.OK)
		}
		ask(t, g, 1, 0, api.Forever, 3+pass, api.Waits)
		queue(t, g, 2, 3+pass)
		give(t, g, 1, api.OK)
		queue(t, g)
		if held := g.Held(); held != 3 {
			t.Errorf("P9: bound %d: Held() = %d, want 3", pass, held)
		}
	}
}
