package tollgate_test

import (
	"testing"

	"tollgate/api"
	"tollgate/tollgate"
)

func TestNewHall(t *testing.T) {
	for _, c := range []struct {
		readers, pass int
		want          api.Errno
	}{
		{1, 0, api.OK}, {1, api.MaxPass, api.OK}, {api.MaxWeight, 0, api.OK}, {api.MaxWeight, api.MaxPass, api.OK}, {3, 5, api.OK},
		{0, 0, api.ErrRoom}, {-1, 0, api.ErrRoom}, {api.MaxWeight + 1, 0, api.ErrRoom}, {api.MaxRoom, 0, api.ErrRoom}, {most, 0, api.ErrRoom}, {least, 0, api.ErrRoom},
		{1, -1, api.ErrPass}, {1, api.MaxPass + 1, api.ErrPass}, {api.MaxWeight, most, api.ErrPass}, {api.MaxWeight, least, api.ErrPass},
		{0, -1, api.ErrRoom}, {api.MaxWeight + 1, api.MaxPass + 1, api.ErrRoom}, {most, least, api.ErrRoom}, {least, most, api.ErrRoom},
	} {
		h, e := tollgate.NewHall(c.readers, c.pass)
		if e != c.want || (h == nil) != (c.want != api.OK) {
			t.Errorf("P8: NewHall(%d, %d) = %v, %d, want %d", c.readers, c.pass, h != nil, e, c.want)
		}
		if h != nil {
			stands(t, h, 0)
			queue(t, h)
		}
	}
}

// So many readers come in and no more, or one writer, whose weight is that of them all.
func TestHallHasItsRoom(t *testing.T) {
	for readers := 1; readers <= api.MaxWeight; readers++ {
		h := beginHall(t, readers, 0)
		for i := range readers {
			read(t, h, 0, i+1, api.Holds)
		}
		read(t, h, 0, readers+1, api.Refused)
		write(t, h, 0, readers+2, api.Refused)
		if held := h.Held(); held != readers {
			t.Errorf("P8: Held() = %d with %d readers", held, readers)
		}

		h = beginHall(t, readers, 0)
		write(t, h, 0, 1, api.Holds)
		read(t, h, 0, 2, api.Refused)
		write(t, h, 0, 3, api.Refused)
		stands(t, h, readers, api.Holds, api.Refused, api.Refused)
		give(t, h, 1, api.OK)
		stands(t, h, 0, api.Done, api.Refused, api.Refused)
	}
}

// A writer needs the whole room: one reader, the last one too, keeps it out.
func TestWriterWaitsForTheLastReader(t *testing.T) {
	for _, readers := range []int{1, 2, 3, api.MaxWeight} {
		h := beginHall(t, readers, 1)
		for i := range readers {
			read(t, h, 0, i+1, api.Holds)
		}
		write(t, h, api.Forever, readers+1, api.Waits)
		for i := range readers {
			queue(t, h, readers+1)
			give(t, h, i+1, api.OK)
		}
		queue(t, h)
		if s, e := h.State(readers + 1); s != api.Holds || e != api.OK || h.Held() != readers {
			t.Errorf("P8: State(%d) = %d, %d, Held() = %d with %d readers", readers+1, s, e, h.Held(), readers)
		}
	}
}

// A hall has the bound that it was given: a reader is passed by that many writers, and no more.
func TestHallHasItsBound(t *testing.T) {
	for pass := range api.MaxPass + 1 {
		h := beginHall(t, 2, pass)
		write(t, h, 0, 1, api.Holds)
		read(t, h, api.Forever, 2, api.Waits)
		for i := range pass + 1 {
			write(t, h, api.Forever, 3+i, api.Waits)
		}
		holder := 1
		for i := range pass {
			give(t, h, holder, api.OK)
			holder = 3 + i
			if s, _ := h.State(holder); s != api.Holds {
				t.Errorf("P8: bound %d: State(%d) = %d, want Holds", pass, holder, s)
			}
		}
		queue(t, h, 2, 3+pass)
		give(t, h, holder, api.OK)
		queue(t, h, 3+pass)
		if s, _ := h.State(2); s != api.Holds || h.Held() != 1 {
			t.Errorf("P8: bound %d: State(2) = %d, Held() = %d, want Holds and 1", pass, s, h.Held())
		}
	}
}

// callsOfAHall are Read and Write, as functions of the wait.
func callsOfAHall(h *tollgate.Hall) map[string]func(int) (int, int, api.Errno) {
	return map[string]func(int) (int, int, api.Errno){"Read": h.Read, "Write": h.Write}
}

// With a wrong wait there is no ticket, whether one would come in, wait, or be refused.
func TestHallWrongWaits(t *testing.T) {
	h := beginHall(t, 2, 3)
	wrong := func() {
		t.Helper()
		for name, call := range callsOfAHall(h) {
			for _, wait := range []int{-2, api.MaxWait + 1, most, least} {
				if n, s, e := call(wait); n != 0 || s != 0 || e != api.ErrWait {
					t.Errorf("P8: %s(%d) = %d, %d, %d, want 0, 0, ErrWait", name, wait, n, s, e)
				}
			}
		}
	}
	wrong()
	stands(t, h, 0)
	read(t, h, 0, 1, api.Holds)
	wrong()
	stands(t, h, 1, api.Holds)
	write(t, h, api.Forever, 2, api.Waits)
	read(t, h, api.Forever, 3, api.Waits)
	wrong()
	stands(t, h, 1, api.Holds, api.Waits, api.Waits)
	queue(t, h, 2, 3)
	give(t, h, 1, api.OK)
	stands(t, h, 2, api.Done, api.Holds, api.Waits)
}

// Whoever finds room holds, however long it would have waited.
func TestHallWaitsThatNeedNotBe(t *testing.T) {
	for _, wait := range []int{0, 1, api.MaxWait, api.Forever} {
		h := beginHall(t, 3, 2)
		read(t, h, wait, 1, api.Holds)
		read(t, h, wait, 2, api.Holds)
		h.Tick()
		stands(t, h, 2, api.Holds, api.Holds)

		h = beginHall(t, 3, 2)
		write(t, h, wait, 1, api.Holds)
		h.Tick()
		stands(t, h, 3, api.Holds)
	}
}

// Whoever finds no room is refused at once, or late at the very time, or waits for ever.
func TestHallWaits(t *testing.T) {
	for _, wait := range []int{1, 2, api.MaxWait} {
		for name := range callsOfAHall(beginHall(t, 1, 0)) {
			h := beginHall(t, 3, 2)
			write(t, h, 0, 1, api.Holds)
			call := callsOfAHall(h)[name]
			for i, c := range []struct{ wait, stands int }{{0, api.Refused}, {wait, api.Waits}, {api.Forever, api.Waits}, {0, api.Refused}} {
				if n, s, e := call(c.wait); n != i+2 || s != c.stands || e != api.OK {
					t.Errorf("P8: %s(%d) = %d, %d, %d, want %d, %d, 0", name, c.wait, n, s, e, i+2, c.stands)
				}
			}
			ticks(h, wait-1)
			stands(t, h, 3, api.Holds, api.Refused, api.Waits, api.Waits, api.Refused)
			queue(t, h, 3, 4)
			h.Tick()
			stands(t, h, 3, api.Holds, api.Refused, api.Late, api.Waits, api.Refused)
			queue(t, h, 4)
			ticks(h, 3)
			give(t, h, 1, api.OK)
			if s, _ := h.State(4); s != api.Holds {
				t.Errorf("P8: %s(Forever): State(4) = %d, want Holds", name, s)
			}
		}
	}
}

// A reader's band is 1 and its weight 1, a writer's band is 0: among Asks of each band they stand so.
func TestBandsOfAHall(t *testing.T) {
	h := beginHall(t, 4, api.MaxPass)
	ask(t, h, 4, 2, 0, 1, api.Holds)
	ask(t, h, 1, 2, api.Forever, 2, api.Waits)
	read(t, h, api.Forever, 3, api.Waits)
	ask(t, h, 1, 1, api.Forever, 4, api.Waits)
	read(t, h, api.Forever, 5, api.Waits)
	ask(t, h, 1, 0, api.Forever, 6, api.Waits)
	write(t, h, api.Forever, 7, api.Waits)
	ask(t, h, 1, 0, api.Forever, 8, api.Waits)
	ask(t, h, 1, 2, api.Forever, 9, api.Waits)
	queue(t, h, 6, 7, 8, 3, 4, 5, 2, 9)
	give(t, h, 1, api.OK)
	stands(t, h, 1, api.Done, api.Waits, api.Waits, api.Waits, api.Waits, api.Holds, api.Waits, api.Waits, api.Waits)
	give(t, h, 6, api.OK)
	stands(t, h, 4, api.Done, api.Waits, api.Waits, api.Waits, api.Waits, api.Done, api.Holds, api.Waits, api.Waits)
	give(t, h, 7, api.OK)
	stands(t, h, 4, api.Done, api.Waits, api.Holds, api.Holds, api.Holds, api.Done, api.Done, api.Holds, api.Waits)
}

// A writer that asks finds its turn at once, if only readers wait, and comes in if there is room.
func TestWriterGoesAheadOfReaders(t *testing.T) {
	h := beginHall(t, 2, 2)
	ask(t, h, 3, 1, api.Forever, 1, api.Waits) // heavier than the room
	read(t, h, api.Forever, 2, api.Waits)
	read(t, h, 0, 3, api.Refused)
	write(t, h, 0, 4, api.Refused)
	write(t, h, api.Forever, 5, api.Holds)
	stands(t, h, 2, api.Waits, api.Waits, api.Refused, api.Refused, api.Holds)
	give(t, h, 5, api.OK)
	write(t, h, 1, 6, api.Holds)
	give(t, h, 6, api.OK)
	write(t, h, api.Forever, 7, api.Waits) // 1 and 2 are at the bound
	queue(t, h, 1, 2, 7)
}

// A writer's weight is that of the readers for whom the hall was made, whatever the room is since.
func TestHallOfAnotherRoom(t *testing.T) {
	h := beginHall(t, 3, 5)
	resize(t, h, 5, api.OK)
	read(t, h, 0, 1, api.Holds)
	write(t, h, 0, 2, api.Holds)
	read(t, h, 0, 3, api.Holds)
	read(t, h, 0, 4, api.Refused)
	stands(t, h, 5, api.Holds, api.Holds, api.Holds, api.Refused)
	write(t, h, api.Forever, 5, api.Waits)
	if e := h.Gate.Resize(8); e != api.OK {
		t.Errorf("P6: Resize(8) = %d", e)
	}
	stands(t, h, 8, api.Holds, api.Holds, api.Holds, api.Refused, api.Holds)

	h = beginHall(t, 3, 5)
	resize(t, h, 2, api.OK)
	write(t, h, 0, 1, api.Refused)
	read(t, h, 0, 2, api.Holds)
	write(t, h, api.Forever, 3, api.Waits)
	give(t, h, 2, api.OK)
	stands(t, h, 0, api.Refused, api.Done, api.Waits)
	resize(t, h, 3, api.OK)
	stands(t, h, 3, api.Refused, api.Done, api.Holds)
}

// A hall's room goes to the gate's edges, not to the readers', and its writers' weight is a right one there too.
func TestHallAtTheEdgesOfRoom(t *testing.T) {
	for _, readers := range []int{1, api.MaxWeight} {
		h := beginHall(t, readers, 0)
		resize(t, h, 0, api.OK)
		read(t, h, 0, 1, api.Refused)
		write(t, h, 0, 2, api.Refused)
		write(t, h, api.Forever, 3, api.Waits)
		for _, room := range []int{-1, api.MaxRoom + 1, most, least} {
			resize(t, h, room, api.ErrRoom)
		}
		stands(t, h, 0, api.Refused, api.Refused, api.Waits)
		resize(t, h, api.MaxRoom, api.OK)
		write(t, h, 0, 4, api.Holds)
		read(t, h, 0, 5, api.Holds)
		stands(t, h, 2*readers+1, api.Refused, api.Refused, api.Holds, api.Holds, api.Holds)
	}
}

// The promoted calls are those of the gate that the hall embeds.
func TestHallIsAGate(t *testing.T) {
	h := beginHall(t, 2, 1)
	g := &h.Gate
	read(t, h, 0, 1, api.Holds)
	ask(t, g, 2, 0, 2, 2, api.Waits)
	write(t, h, 2, 3, api.Waits)
	ask(t, h, 1, 2, api.Forever, 4, api.Waits)
	queue(t, g, 2, 3, 4)
	cancel(t, h, 2, api.OK)
	cancel(t, g, 2, api.ErrState)
	cancel(t, h, 5, api.ErrNone)
	h.Tick()
	g.Tick()
	for _, one := range []gate{h, g} {
		stands(t, one, 2, api.Holds, api.Cancelled, api.Late, api.Holds)
		queue(t, one)
	}
	give(t, g, 1, api.OK)
	give(t, h, 1, api.ErrState)
	give(t, h, 5, api.ErrNone)
	give(t, h, 4, api.OK)
	stands(t, g, 0, api.Done, api.Cancelled, api.Late, api.Done)
	for _, c := range []struct {
		weight, band, wait int
		want               api.Errno
	}{{0, 3, -2, api.ErrWeight}, {101, 0, 0, api.ErrWeight}, {1, 3, -2, api.ErrBand}, {1, 0, -2, api.ErrWait}} {
		if n, s, e := h.Ask(c.weight, c.band, c.wait); n != 0 || s != 0 || e != c.want {
			t.Errorf("P4: Ask(%d, %d, %d) = %d, %d, %d, want 0, 0, %d", c.weight, c.band, c.wait, n, s, e, c.want)
		}
	}
	stands(t, h, 0, api.Done, api.Cancelled, api.Late, api.Done)
}

// A heavier Ask than a hall has readers is a right one, and waits for more room.
func TestAskInAHall(t *testing.T) {
	h := beginHall(t, 1, 0)
	ask(t, h, api.MaxWeight, 0, api.Forever, 1, api.Waits)
	read(t, h, 0, 2, api.Refused)
	write(t, h, api.Forever, 3, api.Waits)
	resize(t, h, api.MaxWeight+1, api.OK)
	stands(t, h, api.MaxWeight+1, api.Holds, api.Refused, api.Holds)
}

func TestHallsApart(t *testing.T) {
	first, second, third := beginHall(t, 1, 0), beginHall(t, 5, 4), beginHall(t, 1, 0)
	write(t, first, 0, 1, api.Holds)
	write(t, second, 0, 1, api.Holds)
	read(t, first, 1, 2, api.Waits)
	read(t, second, 2, 2, api.Waits)
	write(t, second, 2, 3, api.Waits)
	stands(t, third, 0)
	resize(t, third, 7, api.OK)
	first.Tick()
	stands(t, first, 1, api.Holds, api.Late)
	stands(t, second, 5, api.Holds, api.Waits, api.Waits)
	give(t, second, 1, api.OK)
	stands(t, first, 1, api.Holds, api.Late)
	stands(t, second, 5, api.Done, api.Waits, api.Holds)
	write(t, third, 0, 1, api.Holds)
	stands(t, third, 1, api.Holds)
	write(t, first, 0, 3, api.Refused)
}

func TestQueueOfAHallIsTheCallers(t *testing.T) {
	h := beginHall(t, 1, 2)
	write(t, h, 0, 1, api.Holds)
	read(t, h, api.Forever, 2, api.Waits)
	write(t, h, api.Forever, 3, api.Waits)
	one, other := h.Queue(), h.Gate.Queue()
	scribble(one)
	if len(other) != 2 || other[0] != 3 || other[1] != 2 {
		t.Errorf("P2: one list is %v, though another was written to", other)
	}
	queue(t, h, 3, 2)
}

func TestThirdExample(t *testing.T) {
	h := beginHall(t, 3, 5)
	read(t, h, api.Forever, 1, api.Holds)
	read(t, h, api.Forever, 2, api.Holds)
	write(t, h, api.Forever, 3, api.Waits)
	read(t, h, api.Forever, 4, api.Waits)
	queue(t, h, 3, 4)
	give(t, h, 1, api.OK)
	stands(t, h, 1, api.Done, api.Holds, api.Waits, api.Waits)
	give(t, h, 2, api.OK)
	stands(t, h, 3, api.Done, api.Done, api.Holds, api.Waits)
	give(t, h, 3, api.OK)
	stands(t, h, 1, api.Done, api.Done, api.Done, api.Holds)
}
