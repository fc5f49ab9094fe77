package api

import "testing"

func TestNumbers(t *testing.T) {
	for _, c := range []struct {
		name      string
		got, want int
	}{
		{"OK", int(OK), 0}, {"ErrRoom", int(ErrRoom), 1}, {"ErrPass", int(ErrPass), 2}, {"ErrWeight", int(ErrWeight), 3},
		{"ErrBand", int(ErrBand), 4}, {"ErrWait", int(ErrWait), 5}, {"ErrNone", int(ErrNone), 6}, {"ErrState", int(ErrState), 7},
		{"MaxRoom", MaxRoom, 1000}, {"MaxPass", MaxPass, 20}, {"MaxWeight", MaxWeight, 100},
		{"Bands", Bands, 3}, {"MaxWait", MaxWait, 1000000}, {"Forever", Forever, -1},
		{"Waits", Waits, 1}, {"Holds", Holds, 2}, {"Refused", Refused, 3},
		{"Late", Late, 4}, {"Cancelled", Cancelled, 5}, {"Done", Done, 6},
	} {
		if c.got != c.want {
			t.Errorf("%s is %d, want %d", c.name, c.got, c.want)
		}
	}
}
