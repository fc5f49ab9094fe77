package tollgate_test

import (
	"testing"

	"tollgate/api"
)

func TestCancelNoSuchTicket(t *testing.T) {
	g := begin(t, 1, 2)
	for _, n := range []int{least, -1, 0, 1, most} {
		cancel(t, g, n, api.ErrNone)
		stands(t, g, 0)
	}
	ask(t, g, 1, 1, api.Forever, 1, api.Holds)
	ask(t, g, 1, 1, api.Forever, 2, api.Waits)
	for _, n := range []int{least, -2, -1, 0, 3, 4, most} {
		cancel(t, g, n, api.ErrNone)
		stands(t, g, 1, api.Holds, api.Waits)
		queue(t, g, 2)
	}
}

// Whatever else a ticket does than wait, it cannot be cancelled, and nothing changes.
func TestCancelWhoDoesNotWait(t *testing.T) {
	g := begin(t, 2, 2)
	ask(t, g, 1, 1, 0, 1, api.Holds)
	ask(t, g, 1, 1, 0, 2, api.Holds)
	give(t, g, 1, api.OK)
	ask(t, g, 2, 1, 1, 3, api.Waits)
	ask(t, g, 1, 1, 0, 4, api.Refused)
	ask(t, g, 2, 1, 9, 5, api.Waits)
	ask(t, g, 2, 1, 9, 6, api.Waits)
	g.Tick()
	cancel(t, g, 5, api.OK)
	for n := 1; n <= 5; n++ {
		cancel(t, g, n, api.ErrState)
		stands(t, g, 1, api.Done, api.Holds, api.Late, api.Refused, api.Cancelled, api.Waits)
		queue(t, g, 6)
	}
}

// One that waited, and was let in, waits no more.
func TestCancelWhoCameIn(t *testing.T) {
	g := begin(t, 1, 2)
	ask(t, g, 1, 1, api.Forever, 1, api.Holds)
	ask(t, g, 1, 1, api.Forever, 2, api.Waits)
	give(t, g, 1, api.OK)
	cancel(t, g, 2, api.ErrState)
	stands(t, g, 1, api.Done, api.Holds)
	give(t, g, 2, api.OK)
	cancel(t, g, 2, api.ErrState)
	stands(t, g, 0, api.Done, api.Done)
}

// The one whose turn it was, and did not fit, goes: those behind it come in, as far as there is room.
func TestCancelWhoseTurnItWas(t *testing.T) {
	g := begin(t, 10, 5)
	ask(t, g, 6, 1, api.Forever, 1, api.Holds)
	ask(t, g, 5, 0, api.Forever, 2, api.Waits)
	for i, weight := range []int{2, 1, 1, 1} {
		ask(t, g, weight, 1+i%2, 7, 3+i, api.Waits)
	}
	queue(t, g, 2, 3, 5, 4, 6)
	cancel(t, g, 2, api.OK)
	stands(t, g, 10, api.Holds, api.Cancelled, api.Holds, api.Holds, api.Holds, api.Waits)
	queue(t, g, 6)
	cancel(t, g, 2, api.ErrState)
	give(t, g, 2, api.ErrState)
}

// One goes whose turn it was not: it is the same one's turn, which does not fit.
func TestCancelWhoseTurnItWasNot(t *testing.T) {
	for cancelled := 3; cancelled <= 5; cancelled++ {
		g := begin(t, 10, 5)
		ask(t, g, 6, 1, api.Forever, 1, api.Holds)
		ask(t, g, 5, 0, api.Forever, 2, api.Waits)
		states := []int{api.Holds, api.Waits, api.Waits, api.Waits, api.Waits}
		for i := range 3 {
			ask(t, g, 1, i, api.Forever, 3+i, api.Waits)
		}
		cancel(t, g, cancelled, api.OK)
		states[cancelled-1] = api.Cancelled
		stands(t, g, 6, states...)
		give(t, g, 1, api.OK)
		for i := range states {
			if states[i] == api.Waits {
				states[i] = api.Holds
			}
		}
		states[0] = api.Done
		stands(t, g, 7, states...)
		queue(t, g)
	}
}

// The one at the bound goes: it is the lowest band's turn again.
func TestCancelAtTheBound(t *testing.T) {
	g := begin(t, 10, 1)
	ask(t, g, 6, 1, api.Forever, 1, api.Holds)
	ask(t, g, 6, 2, api.Forever, 2, api.Waits)
	ask(t, g, 2, 0, api.Forever, 3, api.Holds)
	ask(t, g, 1, 1, api.Forever, 4, api.Waits)
	ask(t, g, 1, 0, api.Forever, 5, api.Waits)
	ask(t, g, 2, 0, api.Forever, 6, api.Waits)
	queue(t, g, 2, 5, 6, 4)
	cancel(t, g, 2, api.OK) // 5 comes in and passes 4 by, which is at the bound then, and fits
	stands(t, g, 10, api.Holds, api.Cancelled, api.Holds, api.Holds, api.Holds, api.Waits)
}

// One that is cancelled has passed nobody by.
func TestCancelledPassesNobody(t *testing.T) {
	g := begin(t, 2, 1)
	ask(t, g, 1, 1, api.Forever, 1, api.Holds)
	ask(t, g, 2, 1, api.Forever, 2, api.Waits)
	for i := range 3 {
		ask(t, g, 2, 1, api.Forever, 3+i, api.Waits)
		cancel(t, g, 3+i, api.OK)
	}
	ask(t, g, 1, 0, api.Forever, 6, api.Holds)
	stands(t, g, 2, api.Holds, api.Waits, api.Cancelled, api.Cancelled, api.Cancelled, api.Holds)
}

// With nobody left that waits, one that fits holds at once, also if it is not to wait.
func TestCancelTheLast(t *testing.T) {
	g := begin(t, 2, 1)
	ask(t, g, 1, 1, api.Forever, 1, api.Holds)
	ask(t, g, 2, 1, api.Forever, 2, api.Waits)
	ask(t, g, 1, 0, 0, 3, api.Refused)
	cancel(t, g, 2, api.OK)
	queue(t, g)
	ask(t, g, 1, 2, 0, 4, api.Holds)
}
