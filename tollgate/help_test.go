package tollgate_test

import (
	"math"
	"slices"
	"testing"

	"tollgate/api"
	"tollgate/tollgate"
)

// gate is what a gate can do, and, by promotion, a hall.
type gate interface {
	Ask(weight int, band int, wait int) (int, int, api.Errno)
	State(ticket int) (int, api.Errno)
	Give(ticket int) api.Errno
	Cancel(ticket int) api.Errno
	Tick()
	Resize(room int) api.Errno
	Held() int
	Queue() []int
}

func begin(t *testing.T, room, pass int) *tollgate.Gate {
	t.Helper()
	g, e := tollgate.New(room, pass)
	if e != api.OK || g == nil {
		t.Fatalf("P3: New(%d, %d) = %v, %d", room, pass, g != nil, e)
	}
	return g
}

func beginHall(t *testing.T, readers, pass int) *tollgate.Hall {
	t.Helper()
	h, e := tollgate.NewHall(readers, pass)
	if e != api.OK || h == nil {
		t.Fatalf("P8: NewHall(%d, %d) = %v, %d", readers, pass, h != nil, e)
	}
	return h
}

func ask(t *testing.T, g gate, weight, band, wait, number, stands int) {
	t.Helper()
	n, s, e := g.Ask(weight, band, wait)
	if n != number || s != stands || e != api.OK {
		t.Errorf("P4: Ask(%d, %d, %d) = %d, %d, %d, want %d, %d, 0", weight, band, wait, n, s, e, number, stands)
	}
}

func read(t *testing.T, h *tollgate.Hall, wait, number, stands int) {
	t.Helper()
	n, s, e := h.Read(wait)
	if n != number || s != stands || e != api.OK {
		t.Errorf("P8: Read(%d) = %d, %d, %d, want %d, %d, 0", wait, n, s, e, number, stands)
	}
}

func write(t *testing.T, h *tollgate.Hall, wait, number, stands int) {
	t.Helper()
	n, s, e := h.Write(wait)
	if n != number || s != stands || e != api.OK {
		t.Errorf("P8: Write(%d) = %d, %d, %d, want %d, %d, 0", wait, n, s, e, number, stands)
	}
}

func give(t *testing.T, g gate, ticket int, want api.Errno) {
	t.Helper()
	if e := g.Give(ticket); e != want {
		t.Errorf("P5: Give(%d) = %d, want %d", ticket, e, want)
	}
}

// stands asks how all tickets stand, and that there is none behind them.
func stands(t *testing.T, g gate, held int, states ...int) {
	t.Helper()
	for i, want := range states {
		if s, e := g.State(i + 1); s != want || e != api.OK {
			t.Errorf("P4: State(%d) = %d, %d, want %d, 0", i+1, s, e, want)
		}
	}
	for _, n := range []int{math.MinInt, -1, 0, len(states) + 1, len(states) + 2, math.MaxInt} {
		if s, e := g.State(n); s != 0 || e != api.ErrNone {
			t.Errorf("P4: State(%d) = %d, %d, want 0, ErrNone", n, s, e)
		}
	}
	if h := g.Held(); h != held {
		t.Errorf("P7: Held() = %d, want %d", h, held)
	}
}

func cancel(t *testing.T, g gate, ticket int, want api.Errno) {
	t.Helper()
	if e := g.Cancel(ticket); e != want {
		t.Errorf("P6: Cancel(%d) = %d, want %d", ticket, e, want)
	}
}

func resize(t *testing.T, g gate, room int, want api.Errno) {
	t.Helper()
	if e := g.Resize(room); e != want {
		t.Errorf("P6: Resize(%d) = %d, want %d", room, e, want)
	}
}

func queue(t *testing.T, g gate, want ...int) {
	t.Helper()
	if l := g.Queue(); !slices.Equal(l, want) {
		t.Errorf("P7: Queue() = %v, want %v", l, want)
	}
}

func ticks(g gate, times int) {
	for range times {
		g.Tick()
	}
}

// scribble writes over a list that came out, its spare room too.
func scribble(l []int) {
	l = l[:cap(l)]
	for i := range l {
		l[i] = -77
	}
}
