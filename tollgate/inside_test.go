package tollgate

import (
	"testing"
	"time"

	"tollgate/api"
)

func open(t *testing.T, room, pass int) *Gate {
	t.Helper()
	g, e := New(room, pass)
	if e != api.OK {
		t.Fatalf("New(%d, %d): %d", room, pass, e)
	}
	return g
}

func isClosed(c chan struct{}) bool {
	select {
	case <-c:
		return true
	default:
		return false
	}
}

// Each that waits has a channel of its own, closed when its waiting is over.
func TestChannels(t *testing.T) {
	g := open(t, 1, 0)
	for range 3 {
		g.Ask(1, 0, api.Forever)
	}
	second, third := g.tickets[1].over, g.tickets[2].over
	if g.tickets[0].over != nil || second == nil || third == nil || second == third {
		t.Fatal("the ones that wait, and they alone, have each a channel of their own")
	}
	if isClosed(second) || isClosed(third) {
		t.Error("a channel is closed while its ticket waits")
	}
	g.Give(1)
	if !isClosed(second) || isClosed(third) {
		t.Error("the channel of the one that was let in, and it alone, is closed")
	}
	g.Give(2)
	if !isClosed(third) {
		t.Error("the channel of the one that was let in last is open")
	}
	if g.waiting.First() != nil {
		t.Error("one that was let in stands in the list still")
	}
}

// One waits for ever, or until the time is so much more than now.
func TestUntil(t *testing.T) {
	for _, c := range []struct{ now, wait, until int }{
		{0, api.Forever, api.Forever}, {0, 1, 1}, {0, api.MaxWait, api.MaxWait}, {5, 2, 7}, {5, api.Forever, api.Forever},
	} {
		g := open(t, 0, 0)
		if g.now != 0 {
			t.Errorf("P3: a new gate is at the time %d", g.now)
		}
		g.now = c.now
		g.Ask(1, 0, c.wait)
		if n := g.waiting.First(); n == nil || n.Value.until != c.until {
			t.Errorf("P4: at %d, Ask(1, 0, %d) does not wait until %d", c.now, c.wait, c.until)
		}
	}
}

// Each call waits for the mutex, and gives it back, with an error too.
func TestEachCallTakesTheMutex(t *testing.T) {
	g := open(t, 3, 0)
	g.Ask(1, 0, 0)
	for name, call := range map[string]func(){
		"Ask":            func() { g.Ask(1, 0, api.Forever) },
		"Ask, an error":  func() { g.Ask(0, 0, 0) },
		"State":          func() { g.State(1) },
		"State, none":    func() { g.State(0) },
		"Give":           func() { g.Give(1) },
		"Give, an error": func() { g.Give(0) },
		"Held":           func() { g.Held() },
	} {
		ended := make(chan struct{})
		g.mutex.Lock()
		go func() {
			call()
			close(ended)
		}()
		time.Sleep(20 * time.Millisecond)
		if isClosed(ended) {
			t.Errorf("P2: %s has not waited for the mutex", name)
		}
		g.mutex.Unlock()
		<-ended
		if !g.mutex.TryLock() {
			t.Fatalf("P2: %s has not given the mutex back", name)
		}
		g.mutex.Unlock()
	}
}

// Less held than nothing, which never is: the panic stays inside, the mutex is given back, and nothing has changed.
func TestLessHeldThanNothing(t *testing.T) {
	g := open(t, 5, 1)
	g.Ask(5, 0, api.Forever)
	g.Ask(1, 0, api.Forever)
	g.held = 4
	if e := g.Give(1); e != api.ErrState {
		t.Errorf("Give(1) = %d, want ErrState", e)
	}
	first, _ := g.State(1)
	second, _ := g.State(2)
	if first != api.Holds || second != api.Waits || g.Held() != 4 {
		t.Errorf("behind the caught panic: %d, %d, Held %d", first, second, g.Held())
	}
}
