package tollgate

import (
	"slices"
	"testing"
	"time"

	"tollgate/api"
)

func open(t *testing.T, room, pass int) *Gate {
	t.Helper()
	g, e := New(room, pass)
	if e != api.OK {
		t.Fatalf("New(%d, %d): %d", room, pass, e)
	}
	return g
}

func isClosed(c chan struct{}) bool {
	select {
	case <-c:
		return true
	default:
		return false
	}
}

// Each that waits has a channel of its own, closed when its waiting is over.
func TestChannels(t *testing.T) {
	g := open(t, 1, 0)
	for range 3 {
		g.Ask(1, 0, api.Forever)
	}
	second, third := g.tickets[1].over, g.tickets[2].over
	if g.tickets[0].over != nil || second == nil || third == nil || second == third {
		t.Fatal("the ones that wait, and they alone, have each a channel of their own")
	}
	if isClosed(second) || isClosed(third) {
		t.Error("a channel is closed while its ticket waits")
	}
	g.Give(1)
	if !isClosed(second) || isClosed(third) {
		t.Error("the channel of the one that was let in, and it alone, is closed")
	}
	g.Give(2)
	if !isClosed(third) {
		t.Error("the channel of the one that was let in last is open")
	}
	if g.waiting.First() != nil {
		t.Error("one that was let in stands in the list still")
	}
}

// Who is cancelled or late has its channel closed too, and leaves the list.
func TestChannelsOfThoseThatLeave(t *testing.T) {
	g := open(t, 0, 0)
	for _, wait := range []int{api.Forever, 1, api.Forever} {
		g.Ask(1, 0, wait)
	}
	first, second, third := g.tickets[0].over, g.tickets[1].over, g.tickets[2].over
	g.Cancel(1)
	if !isClosed(first) || isClosed(second) || isClosed(third) {
		t.Error("the channel of the one that was cancelled, and it alone, is closed")
	}
	g.Tick()
	if !isClosed(second) || isClosed(third) {
		t.Error("the channel of the one that is late, and no other, is closed by the Tick")
	}
	if n := g.waiting.First(); n == nil || n.Value.ticket != 3 || n.Next() != nil {
		t.Error("those that left stand in the list still, or the one that waits does not")
	}
	g.Cancel(3)
	if !isClosed(third) || g.waiting.First() != nil {
		t.Error("the last one has not left")
	}
}

// A count above the bound, which no calls bring about, is as one at it.
func TestCountAboveTheBound(t *testing.T) {
	for _, count := range []int{2, 3, 100} {
		g := open(t, 1, 2)
		for _, band := range []int{0, 2, 1, 0, 2, 1} {
			g.Ask(1, band, api.Forever)
		}
		g.place(3).Value.count = count
		g.place(5).Value.count = 2
		g.place(6).Value.count = 1
		if l := g.Queue(); !slices.Equal(l, []int{3, 5, 4, 6, 2}) {
			t.Errorf("count %d: Queue() = %v", count, l)
		}
		holder := 1
		for _, next := range []int{3, 5, 2, 4} { // 3 and 5 bring 2 to the bound
			g.Give(holder)
			if s, _ := g.State(next); s != api.Holds {
				t.Errorf("count %d: State(%d) = %d, want Holds", count, next, s)
			}
			holder = next
		}
	}
}

// One waits for ever, or until the time is so much more than now.
func TestUntil(t *testing.T) {
	for _, c := range []struct{ now, wait, until int }{
		{0, api.Forever, api.Forever}, {0, 1, 1}, {0, api.MaxWait, api.MaxWait}, {5, 2, 7}, {5, api.Forever, api.Forever},
	} {
		g := open(t, 0, 0)
		if g.now != 0 {
			t.Errorf("P3: a new gate is at the time %d", g.now)
		}
		g.now = c.now
		g.Ask(1, 0, c.wait)
		if n := g.waiting.First(); n == nil || n.Value.until != c.until {
			t.Errorf("P4: at %d, Ask(1, 0, %d) does not wait until %d", c.now, c.wait, c.until)
		}
	}
}

func openHall(t *testing.T, readers, pass int) *Hall {
	t.Helper()
	h, e := NewHall(readers, pass)
	if e != api.OK {
		t.Fatalf("NewHall(%d, %d): %d", readers, pass, e)
	}
	return h
}

// Each call waits for the mutex, and gives it back, with an error too; those of a hall for that of the gate that it embeds.
func TestEachCallTakesTheMutex(t *testing.T) {
	h := openHall(t, 3, 0)
	h.Ask(1, 0, 0)
	h.Ask(100, 0, api.Forever)
	g := &h.Gate
	for name, call := range map[string]func(){
		"Ask":              func() { g.Ask(1, 0, api.Forever) },
		"Ask, an error":    func() { g.Ask(0, 0, 0) },
		"State":            func() { g.State(1) },
		"State, none":      func() { g.State(0) },
		"Give":             func() { g.Give(1) },
		"Give, an error":   func() { g.Give(0) },
		"Cancel":           func() { g.Cancel(2) },
		"Cancel, none":     func() { g.Cancel(0) },
		"Cancel, an error": func() { g.Cancel(1) },
		"Tick":             func() { g.Tick() },
		"Resize":           func() { g.Resize(2) },
		"Resize, an error": func() { g.Resize(-1) },
		"Held":             func() { g.Held() },
		"Queue":            func() { g.Queue() },
		"Read":             func() { h.Read(api.Forever) },
		"Read, an error":   func() { h.Read(-2) },
		"Write":            func() { h.Write(api.Forever) },
		"Write, an error":  func() { h.Write(-2) },
		"a hall's Ask":     func() { h.Ask(1, 0, api.Forever) },
		"a hall's State":   func() { h.State(1) },
		"a hall's Give":    func() { h.Give(1) },
		"a hall's Cancel":  func() { h.Cancel(2) },
		"a hall's Tick":    func() { h.Tick() },
		"a hall's Resize":  func() { h.Resize(2) },
		"a hall's Held":    func() { h.Held() },
		"a hall's Queue":   func() { h.Queue() },
	} {
		ended := make(chan struct{})
		g.mutex.Lock()
		go func() {
			call()
			close(ended)
		}()
		time.Sleep(20 * time.Millisecond)
		if isClosed(ended) {
			t.Errorf("P2: %s has not waited for the mutex", name)
		}
		g.mutex.Unlock()
		<-ended
		if !g.mutex.TryLock() {
			t.Fatalf("P2: %s has not given the mutex back", name)
		}
		g.mutex.Unlock()
	}
}

// Less held than nothing, which never is: the panic stays inside, the mutex is given back, and nothing has changed.
func TestLessHeldThanNothing(t *testing.T) {
	g, h := open(t, 5, 1), openHall(t, 5, 1)
	lessThanNothing(t, g, g.Give)
	lessThanNothing(t, &h.Gate, h.Give)
}

func lessThanNothing(t *testing.T, g *Gate, give func(ticket int) api.Errno) {
	t.Helper()
	g.Ask(5, 0, api.Forever)
	g.Ask(1, 0, api.Forever)
	g.held = 4
	if e := give(1); e != api.ErrState {
		t.Errorf("Give(1) = %d, want ErrState", e)
	}
	first, _ := g.State(1)
	second, _ := g.State(2)
	if first != api.Holds || second != api.Waits || g.Held() != 4 {
		t.Errorf("behind the caught panic: %d, %d, Held %d", first, second, g.Held())
	}
	g.held = 5
	if e := give(1); e != api.OK || g.Held() != 1 {
		t.Errorf("Give(1) = %d, Held() = %d, though all is as it must be again", e, g.Held())
	}
}

// release is what panics: that Give tells an error is of its recover, and not of a look ahead.
func TestReleasePanics(t *testing.T) {
	g := open(t, 5, 1)
	g.Ask(5, 0, api.Forever)
	g.held = 4
	defer func() {
		if recover() == nil {
			t.Error("less held than nothing is no panic")
		}
	}()
	g.release(g.tickets[0])
}
