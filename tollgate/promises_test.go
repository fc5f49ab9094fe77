package tollgate_test

import (
	"math"
	"testing"

	"tollgate/api"
	"tollgate/tollgate"
)

const (
	most  = math.MaxInt
	least = math.MinInt
)

func TestNew(t *testing.T) {
	for _, c := range []struct {
		room, pass int
		want       api.Errno
	}{
		{0, 0, api.OK}, {0, api.MaxPass, api.OK}, {api.MaxRoom, 0, api.OK}, {api.MaxRoom, api.MaxPass, api.OK}, {10, 2, api.OK},
		{-1, 0, api.ErrRoom}, {api.MaxRoom + 1, 0, api.ErrRoom}, {most, 0, api.ErrRoom}, {least, 0, api.ErrRoom},
		{0, -1, api.ErrPass}, {0, api.MaxPass + 1, api.ErrPass}, {0, most, api.ErrPass}, {0, least, api.ErrPass},
		{-1, -1, api.ErrRoom}, {api.MaxRoom + 1, api.MaxPass + 1, api.ErrRoom}, {most, least, api.ErrRoom}, {least, most, api.ErrRoom},
	} {
		g, e := tollgate.New(c.room, c.pass)
		if e != c.want || (g == nil) != (c.want != api.OK) {
			t.Errorf("P3: New(%d, %d) = %v, %d, want %d", c.room, c.pass, g != nil, e, c.want)
		}
		if g != nil {
			stands(t, g, 0)
		}
	}
}

func TestNewHasItsRoom(t *testing.T) {
	g := begin(t, 0, 0)
	ask(t, g, 1, 0, 0, 1, api.Refused)
	ask(t, g, 1, 0, api.Forever, 2, api.Waits)
	stands(t, g, 0, api.Refused, api.Waits)

	g = begin(t, api.MaxRoom, api.MaxPass)
	for i := range api.MaxRoom / api.MaxWeight {
		ask(t, g, api.MaxWeight, i%api.Bands, 0, i+1, api.Holds)
	}
	ask(t, g, 1, 0, 0, 11, api.Refused)
	if h := g.Held(); h != api.MaxRoom {
		t.Errorf("P7: Held() = %d, want %d", h, api.MaxRoom)
	}
}

func TestAskWrong(t *testing.T) {
	g := begin(t, 10, 2)
	ask(t, g, 6, 1, api.Forever, 1, api.Holds)
	ask(t, g, 6, 1, api.Forever, 2, api.Waits)
	for _, c := range []struct {
		weight, band, wait int
		want               api.Errno
	}{
		{0, 0, 0, api.ErrWeight}, {-1, 0, 0, api.ErrWeight}, {api.MaxWeight + 1, 0, 0, api.ErrWeight}, {most, 0, 0, api.ErrWeight}, {least, 0, 0, api.ErrWeight},
		{1, -1, 0, api.ErrBand}, {1, api.Bands, 0, api.ErrBand}, {1, most, 0, api.ErrBand}, {1, least, 0, api.ErrBand},
		{1, 0, -2, api.ErrWait}, {1, 0, api.MaxWait + 1, api.ErrWait}, {1, 0, most, api.ErrWait}, {1, 0, least, api.ErrWait},
		{0, -1, -2, api.ErrWeight}, {0, -1, 0, api.ErrWeight}, {0, 0, -2, api.ErrWeight}, {1, -1, -2, api.ErrBand},
		{most, most, most, api.ErrWeight}, {least, least, least, api.ErrWeight}, {1, most, least, api.ErrBand},
	} {
		if n, s, e := g.Ask(c.weight, c.band, c.wait); n != 0 || s != 0 || e != c.want {
			t.Errorf("P4: Ask(%d, %d, %d) = %d, %d, %d, want 0, 0, %d", c.weight, c.band, c.wait, n, s, e, c.want)
		}
		stands(t, g, 6, api.Holds, api.Waits)
	}
	ask(t, g, 4, 0, api.Forever, 3, api.Holds)
}

func TestAskEdges(t *testing.T) {
	for _, weight := range []int{1, api.MaxWeight} {
		for band := range api.Bands {
			for _, wait := range []int{api.Forever, 0, 1, api.MaxWait} {
				g := begin(t, weight, 3)
				ask(t, g, weight, band, wait, 1, api.Holds)
				stands(t, g, weight, api.Holds)
				second := api.Waits
				if wait == 0 {
					second = api.Refused
				}
				ask(t, g, weight, band, wait, 2, second)
				stands(t, g, weight, api.Holds, second)
			}
		}
	}
}

func TestAskJustFits(t *testing.T) {
	g := begin(t, 10, 2)
	ask(t, g, 6, 1, 0, 1, api.Holds)
	ask(t, g, 5, 1, 0, 2, api.Refused)
	ask(t, g, 4, 1, 0, 3, api.Holds)
	stands(t, g, 10, api.Holds, api.Refused, api.Holds)
	ask(t, g, 1, 0, 0, 4, api.Refused)
}

func TestAskNotToWaitIsRefusedIfSomebodyWaits(t *testing.T) {
	g := begin(t, 10, 2)
	ask(t, g, 6, 1, api.Forever, 1, api.Holds)
	ask(t, g, 5, 1, api.Forever, 2, api.Waits)
	for band := range api.Bands {
		ask(t, g, 1, band, 0, 3+band, api.Refused)
	}
	give(t, g, 1, api.OK)
	stands(t, g, 5, api.Done, api.Holds, api.Refused, api.Refused, api.Refused)
	ask(t, g, 5, 2, 0, 6, api.Holds)
}

// One that is refused has passed nobody by.
func TestRefusedPassesNobody(t *testing.T) {
	g := begin(t, 2, 1)
	ask(t, g, 1, 1, api.Forever, 1, api.Holds)
	ask(t, g, 2, 1, api.Forever, 2, api.Waits)
	for i := range 5 {
		ask(t, g, 1, 0, 0, 3+i, api.Refused)
	}
	ask(t, g, 1, 0, api.Forever, 8, api.Holds)
	give(t, g, 8, api.OK)
	ask(t, g, 1, 0, api.Forever, 9, api.Waits)
}

func TestWhoeverCameEarlierInABandGoesFirst(t *testing.T) {
	for band := range api.Bands {
		g := begin(t, 3, api.MaxPass)
		ask(t, g, 3, band, api.Forever, 1, api.Holds)
		ask(t, g, 3, band, api.Forever, 2, api.Waits)
		ask(t, g, 1, band, api.Forever, 3, api.Waits)
		ask(t, g, 2, band, api.Forever, 4, api.Waits)
		ask(t, g, 1, band, api.Forever, 5, api.Waits)
		give(t, g, 1, api.OK)
		stands(t, g, 3, api.Done, api.Holds, api.Waits, api.Waits, api.Waits)
		give(t, g, 2, api.OK)
		stands(t, g, 3, api.Done, api.Done, api.Holds, api.Holds, api.Waits)
	}
}

func TestLowerBandGoesFirst(t *testing.T) {
	g := begin(t, 1, api.MaxPass)
	ask(t, g, 1, 0, api.Forever, 1, api.Holds)
	for i, band := range []int{2, 1, 0, 2, 1, 0} {
		ask(t, g, 1, band, api.Forever, 2+i, api.Waits)
	}
	holder := 1
	for _, next := range []int{4, 7, 3, 6, 2, 5} {
		give(t, g, holder, api.OK)
		if s, e := g.State(next); s != api.Holds || e != api.OK {
			t.Errorf("State(%d) = %d, %d behind Give(%d), want Holds", next, s, e, holder)
		}
		holder = next
	}
}

// Whose turn it is does not fit: nobody is let in, however light.
func TestNobodyOvertakesWhoseTurnItIs(t *testing.T) {
	g := begin(t, 10, api.MaxPass)
	ask(t, g, 5, 1, api.Forever, 1, api.Holds)
	ask(t, g, 10, 0, api.Forever, 2, api.Waits)
	ask(t, g, 1, 0, api.Forever, 3, api.Waits)
	ask(t, g, 1, 1, api.Forever, 4, api.Waits)
	ask(t, g, 1, 2, api.MaxWait, 5, api.Waits)
	stands(t, g, 5, api.Holds, api.Waits, api.Waits, api.Waits, api.Waits)
	give(t, g, 1, api.OK)
	stands(t, g, 10, api.Done, api.Holds, api.Waits, api.Waits, api.Waits)
	give(t, g, 2, api.OK)
	stands(t, g, 3, api.Done, api.Done, api.Holds, api.Holds, api.Holds)
}

// A bound of nothing: all come in the order in which they asked.
func TestBoundOfNothing(t *testing.T) {
	g := begin(t, 2, 0)
	ask(t, g, 1, 2, api.Forever, 1, api.Holds)
	ask(t, g, 2, 2, api.Forever, 2, api.Waits)
	ask(t, g, 1, 1, api.Forever, 3, api.Waits)
	ask(t, g, 1, 0, api.Forever, 4, api.Waits)
	give(t, g, 1, api.OK)
	stands(t, g, 2, api.Done, api.Holds, api.Waits, api.Waits)
	give(t, g, 2, api.OK)
	stands(t, g, 2, api.Done, api.Done, api.Holds, api.Holds)
}

// One that waits is passed by as often as the bound says, and no more.
func TestCountAtTheBound(t *testing.T) {
	for pass := range api.MaxPass + 1 {
		g := begin(t, 2, pass)
		ask(t, g, 1, 0, api.Forever, 1, api.Holds)
		ask(t, g, 2, 2, api.Forever, 2, api.Waits)
		for i := range pass {
			ask(t, g, 1, 0, api.Forever, 3+i, api.Holds)
			give(t, g, 3+i, api.OK)
		}
		ask(t, g, 1, 0, api.Forever, 3+pass, api.Waits)
		give(t, g, 1, api.OK)
		if s, e := g.State(2); s != api.Holds || e != api.OK {
			t.Errorf("bound %d: State(2) = %d, %d, want Holds", pass, s, e)
		}
	}
}

// Of several at the bound the earliest goes first, whatever the bands.
func TestEarliestAtTheBound(t *testing.T) {
	g := begin(t, 1, 2)
	ask(t, g, 1, 0, api.Forever, 1, api.Holds)
	for i, band := range []int{2, 1, 0, 0, 0} {
		ask(t, g, 1, band, api.Forever, 2+i, api.Waits)
	}
	give(t, g, 1, api.OK)
	give(t, g, 4, api.OK)
	give(t, g, 5, api.OK)
	stands(t, g, 1, api.Done, api.Holds, api.Waits, api.Done, api.Done, api.Waits)
	give(t, g, 2, api.OK)
	stands(t, g, 1, api.Done, api.Done, api.Holds, api.Done, api.Done, api.Waits)
	give(t, g, 3, api.OK)
	stands(t, g, 1, api.Done, api.Done, api.Done, api.Done, api.Done, api.Holds)
}

// Only those that came earlier are passed by: 3, which came behind 2, is not by it.
func TestLaterOnesAreNotPassedBy(t *testing.T) {
	g := begin(t, 1, 1)
	ask(t, g, 1, 0, api.Forever, 1, api.Holds)
	ask(t, g, 1, 1, api.Forever, 2, api.Waits)
	ask(t, g, 1, 2, api.Forever, 3, api.Waits)
	give(t, g, 1, api.OK)
	ask(t, g, 1, 0, api.Forever, 4, api.Waits)
	give(t, g, 2, api.OK)
	stands(t, g, 1, api.Done, api.Done, api.Waits, api.Holds)
}

// Whoever is let in, at a Give or an Ask, may bring another to the bound, and so to its turn.
func TestOneLetInBringsAnother(t *testing.T) {
	g := begin(t, 4, 1)
	ask(t, g, 3, 0, api.Forever, 1, api.Holds)
	ask(t, g, 1, 2, api.Forever, 2, api.Holds)
	ask(t, g, 1, 2, api.Forever, 3, api.Waits)
	ask(t, g, 3, 1, api.Forever, 4, api.Waits)
	give(t, g, 2, api.OK) // 4 is in the lower band, and does not fit
	stands(t, g, 3, api.Holds, api.Done, api.Waits, api.Waits)
	give(t, g, 1, api.OK) // 4 passes 3 by, whose turn it is then
	stands(t, g, 4, api.Done, api.Done, api.Holds, api.Holds)

	g = begin(t, 5, 1)
	ask(t, g, 2, 0, api.Forever, 1, api.Holds)
	ask(t, g, 2, 0, api.Forever, 2, api.Holds)
	ask(t, g, 2, 2, api.Forever, 3, api.Waits)
	ask(t, g, 5, 1, api.Forever, 4, api.Waits)
	give(t, g, 1, api.OK)
	stands(t, g, 2, api.Done, api.Holds, api.Waits, api.Waits)
	ask(t, g, 1, 0, api.Forever, 5, api.Holds) // 3 and 4 are at the bound; 3 is the earlier one, and fits
	stands(t, g, 5, api.Done, api.Holds, api.Holds, api.Waits, api.Holds)
}

func TestGive(t *testing.T) {
	g := begin(t, 10, 2)
	for _, n := range []int{0, 1, -1, most, least} {
		give(t, g, n, api.ErrNone)
	}
	ask(t, g, 6, 1, api.Forever, 1, api.Holds)
	ask(t, g, 6, 1, 7, 2, api.Waits)
	ask(t, g, 1, 1, 0, 3, api.Refused)
	for _, n := range []int{0, 4, 5, -1, most, least} {
		give(t, g, n, api.ErrNone)
		stands(t, g, 6, api.Holds, api.Waits, api.Refused)
	}
	for _, n := range []int{2, 3} {
		give(t, g, n, api.ErrState)
		stands(t, g, 6, api.Holds, api.Waits, api.Refused)
	}
	give(t, g, 1, api.OK)
	stands(t, g, 6, api.Done, api.Holds, api.Refused)
	give(t, g, 1, api.ErrState)
	stands(t, g, 6, api.Done, api.Holds, api.Refused)
	give(t, g, 2, api.OK)
	give(t, g, 2, api.ErrState)
	stands(t, g, 0, api.Done, api.Done, api.Refused)
}

func TestGiveLetsInAsManyAsFit(t *testing.T) {
	g := begin(t, 10, 20)
	ask(t, g, 10, 1, api.Forever, 1, api.Holds)
	for i, weight := range []int{4, 3, 3, 1} {
		ask(t, g, weight, 1, api.Forever, 2+i, api.Waits)
	}
	give(t, g, 1, api.OK)
	stands(t, g, 10, api.Done, api.Holds, api.Holds, api.Holds, api.Waits)
}

// The first example of the document.
func TestFirstExample(t *testing.T) {
	g := begin(t, 10, 2)
	ask(t, g, 6, 1, api.Forever, 1, api.Holds)
	ask(t, g, 6, 1, api.Forever, 2, api.Waits)
	ask(t, g, 4, 1, 0, 3, api.Refused)
	ask(t, g, 4, 0, api.Forever, 4, api.Holds)
	give(t, g, 4, api.OK)
	ask(t, g, 4, 0, api.Forever, 5, api.Holds)
	give(t, g, 5, api.OK)
	ask(t, g, 4, 0, api.Forever, 6, api.Waits)
	queue(t, g, 2, 6)
	give(t, g, 1, api.OK)
	stands(t, g, 10, api.Done, api.Holds, api.Refused, api.Done, api.Done, api.Holds)
	queue(t, g)
}

// What a gate answers hangs on no other gate.
func TestGatesApart(t *testing.T) {
	a, b := begin(t, 1, 0), begin(t, 1, 0)
	ask(t, a, 1, 0, api.Forever, 1, api.Holds)
	ask(t, a, 1, 0, api.Forever, 2, api.Waits)
	stands(t, b, 0)
	ask(t, b, 1, 0, 0, 1, api.Holds)
	give(t, b, 1, api.OK)
	stands(t, a, 1, api.Holds, api.Waits)
	stands(t, b, 0, api.Done)
	give(t, b, 2, api.ErrNone)
	give(t, a, 1, api.OK)
	stands(t, a, 1, api.Done, api.Holds)
}
