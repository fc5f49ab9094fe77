package tollgate_test

import (
	"slices"
	"testing"

	"tollgate/api"
)

func TestQueueOfNobody(t *testing.T) {
	g := begin(t, 1, 1)
	queue(t, g)
	ask(t, g, 1, 0, 1, 1, api.Holds)
	ask(t, g, 1, 0, 0, 2, api.Refused)
	queue(t, g)
	ask(t, g, 1, 0, 1, 3, api.Waits)
	queue(t, g, 3)
	g.Tick()
	queue(t, g)
	ask(t, g, 1, 0, 1, 4, api.Waits)
	cancel(t, g, 4, api.OK)
	queue(t, g)
	ask(t, g, 1, 0, 1, 5, api.Waits)
	give(t, g, 1, api.OK)
	queue(t, g)
	give(t, g, 5, api.OK)
	queue(t, g)
}

// By bands, and in a band by who came earlier.
func TestQueueByBands(t *testing.T) {
	g := begin(t, 0, api.MaxPass)
	for i, band := range []int{2, 1, 0, 2, 1, 0, 1} {
		ask(t, g, 1+i%3, band, api.Forever, i+1, api.Waits)
	}
	queue(t, g, 3, 6, 2, 5, 7, 1, 4)
}

// A bound of nothing: all are at it.
func TestQueueWithABoundOfNothing(t *testing.T) {
	g := begin(t, 0, 0)
	for i, band := range []int{2, 1, 0, 2, 1, 0} {
		ask(t, g, 1, band, api.Forever, i+1, api.Waits)
	}
	queue(t, g, 1, 2, 3, 4, 5, 6)
}

// The bound's ones come first, by who came earlier, whatever their bands; one below the bound does not.
func TestQueueAtTheBound(t *testing.T) {
	g := begin(t, 1, 2)
	ask(t, g, 1, 0, api.Forever, 1, api.Holds)
	for i, band := range []int{2, 1, 0, 2, 0, 1, 1} {
		ask(t, g, 1, band, api.Forever, 2+i, api.Waits)
	}
	queue(t, g, 4, 6, 3, 7, 8, 2, 5)
	give(t, g, 1, api.OK) // 4 comes in: 2 and 3 count one
	queue(t, g, 6, 3, 7, 8, 2, 5)
	give(t, g, 4, api.OK) // 6 comes in: 2 and 3 are at the bound, 5 is one below it
	queue(t, g, 2, 3, 7, 8, 5)
	ask(t, g, 1, 0, api.Forever, 9, api.Waits)
	queue(t, g, 2, 3, 9, 7, 8, 5)
	give(t, g, 6, api.OK)
	queue(t, g, 3, 9, 7, 8, 5)
	give(t, g, 2, api.OK)
	queue(t, g, 9, 7, 8, 5)
	give(t, g, 3, api.OK) // 9 comes in: 5 is at the bound
	queue(t, g, 5, 7, 8)
}

// Queue tells, and changes nothing: no count either.
func TestQueueChangesNothing(t *testing.T) {
	g := begin(t, 1, 2)
	ask(t, g, 1, 0, api.Forever, 1, api.Holds)
	for i, band := range []int{2, 1, 0} {
		ask(t, g, 1, band, api.Forever, 2+i, api.Waits)
	}
	for range 10 {
		queue(t, g, 4, 3, 2)
		stands(t, g, 1, api.Holds, api.Waits, api.Waits, api.Waits)
	}
}

// What the caller writes into a list, its spare room too, changes neither another list nor the gate.
func TestQueueIsTheCallers(t *testing.T) {
	for waiting := range 20 {
		g := begin(t, 1, 3)
		ask(t, g, 1, 0, api.Forever, 1, api.Holds)
		var want []int
		for i := range waiting {
			ask(t, g, 1, 1, api.Forever, 2+i, api.Waits)
			want = append(want, 2+i)
		}
		first, second := g.Queue(), g.Queue()
		whole := slices.Clone(second[:cap(second)])
		scribble(first)
		if !slices.Equal(second[:cap(second)], whole) {
			t.Errorf("P2: a list, with its spare room, has become %v, want %v", second[:cap(second)], whole)
		}
		scribble(second)
		queue(t, g, want...)
		for i := range waiting {
			give(t, g, 1+i, api.OK)
			queue(t, g, want[i+1:]...)
		}
	}
}

// A list that came out stays as it was, whatever the gate does.
func TestQueueStays(t *testing.T) {
	g := begin(t, 1, 3)
	ask(t, g, 1, 0, api.Forever, 1, api.Holds)
	ask(t, g, 1, 0, api.Forever, 2, api.Waits)
	ask(t, g, 1, 0, 1, 3, api.Waits)
	ask(t, g, 1, 0, api.Forever, 4, api.Waits)
	l := g.Queue()
	whole := slices.Clone(l[:cap(l)])
	ask(t, g, 1, 0, api.Forever, 5, api.Waits)
	g.Tick()
	cancel(t, g, 4, api.OK)
	give(t, g, 1, api.OK)
	resize(t, g, 9, api.OK)
	g.Queue()
	if !slices.Equal(l[:cap(l)], whole) || !slices.Equal(l, []int{2, 3, 4}) {
		t.Errorf("P2: a list has become %v, want [2 3 4]", l[:cap(l)])
	}
}
