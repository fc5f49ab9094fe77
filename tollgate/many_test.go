package tollgate_test

import (
	"runtime"
	"sync"
	"testing"

	"tollgate/api"
)

const (
	workers = 8
	rounds  = 400
)

// atOnce runs the work in several goroutines that begin together, and waits for all.
func atOnce(work func(worker int)) {
	var w sync.WaitGroup
	begin := make(chan struct{})
	for i := range workers {
		w.Add(1)
		go func() {
			defer w.Done()
			<-begin
			work(i)
		}()
	}
	close(begin)
	w.Wait()
}

// Each Ask has a number of its own, with none left out.
func TestAsksAtOnce(t *testing.T) {
	g := begin(t, 50, 3)
	numbers := make([][]int, workers)
	atOnce(func(worker int) {
		for i := range rounds {
			n, _, e := g.Ask(1+i%3, i%api.Bands, api.Forever)
			if e != api.OK {
				t.Errorf("P4: Ask: %d", e)
			}
			numbers[worker] = append(numbers[worker], n)
		}
	})
	seen := make([]int, workers*rounds+1)
	for _, list := range numbers {
		for i, n := range list {
			if n < 1 || n >= len(seen) || i > 0 && n <= list[i-1] {
				t.Fatalf("P2: a ticket %d, where %d were asked for", n, workers*rounds)
			}
			seen[n]++
		}
	}
	for n, times := range seen[1:] {
		if times != 1 {
			t.Errorf("P2: the ticket %d was had %d times", n+1, times)
		}
	}
}

// All that wait come in at last, if those that hold give back, whoever gives when.
func TestGivesAtOnce(t *testing.T) {
	g := begin(t, 7, 2)
	atOnce(func(worker int) {
		for i := range rounds {
			n, _, _ := g.Ask(1+(i+worker)%7, i%api.Bands, api.Forever)
			if !giveWhenHeld(t, g, n) {
				return
			}
			if held := g.Held(); held < 0 || held > 7 {
				t.Errorf("P7: Held() = %d", held)
			}
		}
	})
	if held := g.Held(); held != 0 {
		t.Errorf("P7: Held() = %d, want 0", held)
	}
	for n := range workers * rounds {
		if s, e := g.State(n + 1); s != api.Done || e != api.OK {
			t.Fatalf("P4: State(%d) = %d, %d, want Done", n+1, s, e)
		}
	}
}

// A writer is alone, whoever asks when: what only writers write and readers read needs no other lock. (The race detector looks at it too.)
func TestReadersAndWritersAtOnce(t *testing.T) {
	h := beginHall(t, 3, 2)
	var pair [2]int
	var written [workers]int
	atOnce(func(worker int) {
		for i := range rounds {
			if (i+worker)%3 > 0 {
				n, _, _ := h.Read(api.Forever)
				if !waitToHold(t, h, n) {
					return
				}
				if pair[0] != pair[1] {
					t.Errorf("P9: a reader is in while somebody writes")
				}
				give(t, h, n, api.OK)
				continue
			}
			n, _, _ := h.Write(api.Forever)
			if !waitToHold(t, h, n) {
				return
			}
			pair[0]++
			runtime.Gosched()
			pair[1]++
			written[worker]++
			give(t, h, n, api.OK)
		}
	})
	sum := 0
	for _, n := range written {
		sum += n
	}
	if pair != [2]int{sum, sum} || h.Held() != 0 || len(h.Queue()) != 0 {
		t.Errorf("P9: %d were written, and there are %v; Held() = %d, Queue() = %v", sum, pair, h.Held(), h.Queue())
	}
}

// A hall's own calls and the promoted ones, all at once: each Read and Write has a number of its own, and what is held is what the tickets say.
func TestAllCallsOfAHallAtOnce(t *testing.T) {
	h := beginHall(t, 4, 0)
	atOnce(func(worker int) {
		for i := range rounds {
			call := h.Read
			if (i+worker)%4 == 0 {
				call = h.Write
			}
			n, _, e := call([]int{api.Forever, 0, 7}[i%3])
			if e != api.OK {
				t.Errorf("P8: %d", e)
			}
			switch (i + worker) % 5 {
			case 0:
				h.Cancel(n)
			case 1:
				h.Tick()
			case 2:
				h.Resize(i % 10)
			case 3:
				checkOrder(t, h.Queue())
			}
			h.Give(n - worker)
		}
	})
	resize(t, h, 4, api.OK)
	drain(t, h, workers*rounds)
	read(t, h, 0, workers*rounds+1, api.Holds)
}

// giveWhenHeld says whether the ticket came in, and was given back.
func giveWhenHeld(t *testing.T, g gate, n int) bool {
	if !waitToHold(t, g, n) {
		return false
	}
	if e := g.Give(n); e != api.OK {
		t.Errorf("P5: Give(%d) = %d", n, e)
		return false
	}
	return true
}

// waitToHold says whether the ticket came in; it gives up at last, so that a gate at fault fails the test, and does not hang it.
func waitToHold(t *testing.T, g gate, n int) bool {
	for range 10_000_000 {
		s, e := g.State(n)
		if e == api.OK && s == api.Waits {
			runtime.Gosched()
			continue
		}
		if e != api.OK || s != api.Holds {
			t.Errorf("P4: State(%d) = %d, %d", n, s, e)
			return false
		}
		return true
	}
	t.Errorf("P5: the ticket %d never came in", n)
	return false
}

// Of several that give the same tickets back, one does so for each.
func TestGiveTheSameAtOnce(t *testing.T) {
	for range 20 {
		g := begin(t, api.MaxRoom, 0)
		for i := range api.MaxRoom {
			ask(t, g, 1, 0, 0, i+1, api.Holds)
		}
		var given [workers]int
		atOnce(func(worker int) {
			for i := range api.MaxRoom {
				if e := g.Give(i + 1); e == api.OK {
					given[worker]++
				} else if e != api.ErrState {
					t.Errorf("P5: Give(%d) = %d", i+1, e)
				}
			}
		})
		sum := 0
		for _, n := range given {
			sum += n
		}
		if sum != api.MaxRoom || g.Held() != 0 {
			t.Fatalf("P2: %d tickets were given back %d times, and %d is held", api.MaxRoom, sum, g.Held())
		}
	}
}

// Of several that cancel the same tickets, one does so for each.
func TestCancelTheSameAtOnce(t *testing.T) {
	g := begin(t, 0, 3)
	for i := range rounds {
		ask(t, g, 1, i%api.Bands, api.Forever, i+1, api.Waits)
	}
	var cancelled [workers]int
	atOnce(func(worker int) {
		for i := range rounds {
			if e := g.Cancel(i + 1); e == api.OK {
				cancelled[worker]++
			} else if e != api.ErrState {
				t.Errorf("P6: Cancel(%d) = %d", i+1, e)
			}
		}
	})
	sum := 0
	for _, n := range cancelled {
		sum += n
	}
	if sum != rounds || len(g.Queue()) != 0 {
		t.Errorf("P2: %d tickets were cancelled %d times, and %v wait", rounds, sum, g.Queue())
	}
}

// No Tick is lost: the ones that were to wait for all of them are late, and no others.
func TestTicksAtOnce(t *testing.T) {
	g := begin(t, 0, 3)
	ask(t, g, 1, 0, workers*rounds-1, 1, api.Waits)
	ask(t, g, 1, 0, workers*rounds, 2, api.Waits)
	ask(t, g, 1, 0, workers*rounds+1, 3, api.Waits)
	atOnce(func(int) { ticks(g, rounds) })
	stands(t, g, 0, api.Late, api.Late, api.Waits)
	g.Tick()
	stands(t, g, 0, api.Late, api.Late, api.Late)
}

// With a bound of nothing each list is in the order of the tickets, and nobody stands in it twice, whatever goes on beside.
func TestAllCallsAtOnce(t *testing.T) {
	g := begin(t, 5, 0)
	atOnce(func(worker int) {
		for i := range rounds {
			n, _, e := g.Ask(1+(i+worker)%5, i%api.Bands, []int{api.Forever, 0, 7}[i%3])
			if e != api.OK {
				t.Errorf("P4: Ask: %d", e)
			}
			switch (i + worker) % 5 {
			case 0:
				g.Cancel(n)
			case 1:
				g.Tick()
			case 2:
				g.Resize(i % 10)
			case 3:
				checkOrder(t, g.Queue())
			}
			g.Give(n - worker)
		}
	})
	resize(t, g, 5, api.OK)
	drain(t, g, workers*rounds)
}

func checkOrder(t *testing.T, l []int) {
	for i, n := range l {
		if n < 1 || n > workers*rounds || i > 0 && n <= l[i-1] {
			t.Errorf("P7: Queue() = %v", l)
			return
		}
	}
	scribble(l)
}

// drain gives back all that is held, and all that comes in by it, until nobody is left.
func drain(t *testing.T, g gate, tickets int) {
	for range tickets {
		for n := range tickets {
			g.Give(n + 1)
		}
		if g.Held() == 0 {
			break
		}
	}
	if g.Held() != 0 || len(g.Queue()) != 0 {
		t.Errorf("P5: Held() = %d, Queue() = %v, though all was given back", g.Held(), g.Queue())
	}
	for n := range tickets {
		if s, e := g.State(n + 1); s == api.Waits || s == api.Holds || e != api.OK {
			t.Fatalf("P4: State(%d) = %d, %d", n+1, s, e)
		}
	}
}
