package tollgate_test

import (
	"testing"

	"tollgate/api"
)

// One is late at the very time until which it was to wait, and not before.
func TestLateAtTheVeryTime(t *testing.T) {
	for _, start := range []int{0, 1, 17} {
		for _, wait := range []int{1, 2, 3, 100} {
			g := begin(t, 0, 0)
			ticks(g, start)
			ask(t, g, 1, 0, wait, 1, api.Waits)
			ticks(g, wait-1)
			stands(t, g, 0, api.Waits)
			queue(t, g, 1)
			g.Tick()
			stands(t, g, 0, api.Late)
			queue(t, g)
		}
	}
}

func TestLateAtTheGreatestTime(t *testing.T) {
	g := begin(t, 1, 3)
	ask(t, g, 1, 0, api.MaxWait, 1, api.Holds)
	g.Tick()
	ask(t, g, 1, 0, api.MaxWait, 2, api.Waits)
	ask(t, g, 1, 0, api.Forever, 3, api.Waits)
	ticks(g, api.MaxWait-1)
	stands(t, g, 1, api.Holds, api.Waits, api.Waits)
	g.Tick()
	stands(t, g, 1, api.Holds, api.Late, api.Waits)
	ticks(g, api.MaxWait+1)
	stands(t, g, 1, api.Holds, api.Late, api.Waits)
	give(t, g, 1, api.OK)
	stands(t, g, 1, api.Done, api.Late, api.Holds)
}

// Who holds, is refused, gave back or was cancelled is never late, whatever it asked for.
func TestOnlyWhoWaitsIsLate(t *testing.T) {
	g := begin(t, 3, 2)
	ask(t, g, 1, 0, 1, 1, api.Holds)
	ask(t, g, 2, 0, 2, 2, api.Holds)
	ask(t, g, 1, 0, 0, 3, api.Refused)
	ask(t, g, 1, 0, 2, 4, api.Waits)
	ask(t, g, 1, 0, 3, 5, api.Waits)
	give(t, g, 1, api.OK)
	cancel(t, g, 5, api.OK)
	ticks(g, 10)
	stands(t, g, 3, api.Done, api.Holds, api.Refused, api.Holds, api.Cancelled)
}

// All that are late go ahead of the letting in: neither comes in, though each would fit once the others went.
func TestSeveralLateAtOneTick(t *testing.T) {
	g := begin(t, 4, 9)
	ask(t, g, 2, 1, api.Forever, 1, api.Holds)
	ask(t, g, 3, 0, 3, 2, api.Waits)
	ticks(g, 1)
	ask(t, g, 1, 1, 2, 3, api.Waits)
	ticks(g, 1)
	ask(t, g, 1, 0, 1, 4, api.Waits)
	ask(t, g, 1, 2, 2, 5, api.Waits)
	ask(t, g, 1, 0, 1, 6, api.Waits)
	queue(t, g, 2, 4, 6, 3, 5)
	g.Tick()
	stands(t, g, 3, api.Holds, api.Late, api.Late, api.Late, api.Holds, api.Late)
	queue(t, g)
}

// The first, the last, those between and all of the list are late.
func TestLateAnywhereInTheList(t *testing.T) {
	for late := range 1 << 4 {
		g := begin(t, 0, 0)
		var states, waiting []int
		for i := range 4 {
			if late>>i&1 == 1 {
				ask(t, g, 1, 0, 1, i+1, api.Waits)
				states = append(states, api.Late)
			} else {
				ask(t, g, 1, 0, 2, i+1, api.Waits)
				states = append(states, api.Waits)
				waiting = append(waiting, i+1)
			}
		}
		g.Tick()
		stands(t, g, 0, states...)
		queue(t, g, waiting...)
		g.Tick()
		stands(t, g, 0, api.Late, api.Late, api.Late, api.Late)
	}
}

// One that is late has passed nobody by, and who is let in behind it passes by only those that wait still.
func TestLatePassesNobody(t *testing.T) {
	g := begin(t, 2, 1)
	ask(t, g, 1, 1, api.Forever, 1, api.Holds)
	ask(t, g, 2, 1, api.Forever, 2, api.Waits)
	ask(t, g, 2, 1, 1, 3, api.Waits)
	g.Tick()
	ask(t, g, 1, 0, api.Forever, 4, api.Holds)
	give(t, g, 4, api.OK)
	ask(t, g, 1, 0, api.Forever, 5, api.Waits)
	queue(t, g, 2, 5)
}

// The one at the bound is late: it is the lowest band's turn again.
func TestLateAtTheBound(t *testing.T) {
	g := begin(t, 10, 1)
	ask(t, g, 6, 1, api.Forever, 1, api.Holds)
	ask(t, g, 6, 2, 1, 2, api.Waits)
	ask(t, g, 2, 0, api.Forever, 3, api.Holds)
	ask(t, g, 2, 0, api.Forever, 4, api.Waits)
	g.Tick()
	stands(t, g, 10, api.Holds, api.Late, api.Holds, api.Holds)
}

func TestLateCanDoNothing(t *testing.T) {
	g := begin(t, 0, 0)
	ask(t, g, 1, 0, 1, 1, api.Waits)
	g.Tick()
	give(t, g, 1, api.ErrState)
	cancel(t, g, 1, api.ErrState)
	resize(t, g, 5, api.OK)
	stands(t, g, 0, api.Late)
	ask(t, g, 5, 0, 0, 2, api.Holds)
}

// Each gate has a time of its own.
func TestTimesApart(t *testing.T) {
	a, b := begin(t, 0, 0), begin(t, 0, 0)
	ask(t, a, 1, 0, 1, 1, api.Waits)
	ask(t, b, 1, 0, 1, 1, api.Waits)
	a.Tick()
	stands(t, a, 0, api.Late)
	stands(t, b, 0, api.Waits)
	b.Tick()
	stands(t, b, 0, api.Late)
}

// The second example of the document.
func TestSecondExample(t *testing.T) {
	g := begin(t, 1, 0)
	ask(t, g, 1, 2, api.Forever, 1, api.Holds)
	ask(t, g, 1, 2, 3, 2, api.Waits)
	ticks(g, 2)
	stands(t, g, 1, api.Holds, api.Waits)
	g.Tick()
	stands(t, g, 1, api.Holds, api.Late)
	give(t, g, 2, api.ErrState)
	give(t, g, 9, api.ErrNone)
	cancel(t, g, 1, api.ErrState)
}
