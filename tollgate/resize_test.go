package tollgate_test

import (
	"testing"

	"tollgate/api"
)

// A room that may not be changes nothing: what waits, waits, and the room is the old one.
func TestResizeWrong(t *testing.T) {
	g := begin(t, 3, 2)
	ask(t, g, 2, 1, api.Forever, 1, api.Holds)
	ask(t, g, 2, 1, api.Forever, 2, api.Waits)
	for _, room := range []int{least, -1001, -1, api.MaxRoom + 1, most} {
		resize(t, g, room, api.ErrRoom)
		stands(t, g, 2, api.Holds, api.Waits)
		queue(t, g, 2)
	}
	cancel(t, g, 2, api.OK)
	ask(t, g, 2, 1, 0, 3, api.Refused)
	ask(t, g, 1, 1, 0, 4, api.Holds)
}

func TestResizeToNothing(t *testing.T) {
	g := begin(t, 3, 2)
	resize(t, g, 0, api.OK)
	ask(t, g, 1, 1, 0, 1, api.Refused)
	ask(t, g, 1, 1, api.Forever, 2, api.Waits)
	stands(t, g, 0, api.Refused, api.Waits)
	resize(t, g, 1, api.OK)
	stands(t, g, 1, api.Refused, api.Holds)
}

func TestResizeToTheGreatest(t *testing.T) {
	g := begin(t, 0, 20)
	for i := range 11 {
		ask(t, g, api.MaxWeight, i%api.Bands, api.Forever, i+1, api.Waits)
	}
	resize(t, g, api.MaxRoom, api.OK)
	if held := g.Held(); held != api.MaxRoom {
		t.Errorf("P7: Held() = %d, want %d", held, api.MaxRoom)
	}
	queue(t, g, 9) // the last of the highest band
}

// What is held stays held, even if it is more than the room; nobody comes in until there is room again.
func TestResizeBelowWhatIsHeld(t *testing.T) {
	g := begin(t, 10, 5)
	ask(t, g, 4, 1, api.Forever, 1, api.Holds)
	ask(t, g, 4, 1, api.Forever, 2, api.Holds)
	ask(t, g, 2, 1, api.Forever, 3, api.Holds)
	for _, room := range []int{9, 0, 5} {
		resize(t, g, room, api.OK)
		stands(t, g, 10, api.Holds, api.Holds, api.Holds)
	}
	ask(t, g, 1, 0, 0, 4, api.Refused)
	ask(t, g, 1, 0, 9, 5, api.Waits)
	give(t, g, 1, api.OK)
	stands(t, g, 6, api.Done, api.Holds, api.Holds, api.Refused, api.Waits)
	g.Tick()
	resize(t, g, 6, api.OK)
	stands(t, g, 6, api.Done, api.Holds, api.Holds, api.Refused, api.Waits)
	resize(t, g, 7, api.OK)
	stands(t, g, 7, api.Done, api.Holds, api.Holds, api.Refused, api.Holds)
	resize(t, g, 2, api.OK)
	for _, n := range []int{2, 3, 5} {
		give(t, g, n, api.OK)
	}
	ask(t, g, 3, 0, 0, 6, api.Refused)
	ask(t, g, 2, 0, 0, 7, api.Holds)
}

// A greater room lets in, in turn, as many as fit; whose turn it is holds up the others.
func TestResizeLetsIn(t *testing.T) {
	g := begin(t, 2, 5)
	ask(t, g, 2, 1, api.Forever, 1, api.Holds)
	ask(t, g, 3, 1, api.Forever, 2, api.Waits)
	ask(t, g, 1, 1, api.Forever, 3, api.Waits)
	ask(t, g, 1, 2, api.Forever, 4, api.Waits)
	resize(t, g, 4, api.OK)
	stands(t, g, 2, api.Holds, api.Waits, api.Waits, api.Waits)
	resize(t, g, 6, api.OK)
	stands(t, g, 6, api.Holds, api.Holds, api.Holds, api.Waits)
	resize(t, g, 6, api.OK)
	stands(t, g, 6, api.Holds, api.Holds, api.Holds, api.Waits)
	resize(t, g, 7, api.OK)
	stands(t, g, 7, api.Holds, api.Holds, api.Holds, api.Holds)
}

// Who comes in by a Resize passes by those that came earlier.
func TestResizeCounts(t *testing.T) {
	g := begin(t, 0, 2)
	for i, band := range []int{2, 1, 0, 0, 0} {
		ask(t, g, 1, band, api.Forever, i+1, api.Waits)
	}
	resize(t, g, 1, api.OK)
	queue(t, g, 4, 5, 2, 1)
	resize(t, g, 2, api.OK)
	queue(t, g, 1, 2, 5)
	resize(t, g, 3, api.OK)
	queue(t, g, 2, 5)
	stands(t, g, 3, api.Holds, api.Waits, api.Holds, api.Holds, api.Waits)
}

// Each gate has a room of its own.
func TestRoomsApart(t *testing.T) {
	a, b := begin(t, 1, 0), begin(t, 1, 0)
	resize(t, a, 9, api.OK)
	ask(t, a, 9, 0, 0, 1, api.Holds)
	ask(t, b, 2, 0, 0, 1, api.Refused)
	ask(t, b, 1, 0, 0, 2, api.Holds)
}
