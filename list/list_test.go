package list

import (
	"slices"
	"testing"
)

func forwards(l *List[int]) []int {
	var out []int
	for n := l.First(); n != nil; n = n.Next() {
		out = append(out, n.Value)
	}
	return out
}

func backwards(l *List[int]) []int {
	var out []int
	for n := l.last; n != nil; n = n.before {
		out = append(out, n.Value)
	}
	return out
}

func holds(t *testing.T, l *List[int], want ...int) {
	t.Helper()
	if got := forwards(l); !slices.Equal(got, want) {
		t.Errorf("the list is %v, want %v", got, want)
	}
	back := backwards(l)
	slices.Reverse(back)
	if !slices.Equal(back, want) {
		t.Errorf("the list, gone through from its end, is %v, want %v", back, want)
	}
}

func three(l *List[int]) [3]*Node[int] {
	return [3]*Node[int]{l.Append(1), l.Append(2), l.Append(3)}
}

func TestAppend(t *testing.T) {
	var l List[int]
	holds(t, &l)
	three(&l)
	holds(t, &l, 1, 2, 3)
}

func TestTakeAnywhere(t *testing.T) {
	for i, want := range [][]int{{2, 3}, {1, 3}, {1, 2}} {
		var l List[int]
		nodes := three(&l)
		l.Take(nodes[i])
		holds(t, &l, want...)
		l.Append(4)
		holds(t, &l, append(want, 4)...)
	}
}

func TestTakeAllInEachOrder(t *testing.T) {
	for _, order := range [][]int{{0, 1, 2}, {0, 2, 1}, {1, 0, 2}, {1, 2, 0}, {2, 0, 1}, {2, 1, 0}} {
		var l List[int]
		nodes := three(&l)
		for _, i := range order {
			l.Take(nodes[i])
		}
		holds(t, &l)
		l.Append(9)
		holds(t, &l, 9)
	}
}

func TestTakeWhatIsNotThere(t *testing.T) {
	var l, other List[int]
	nodes := three(&l)
	foreign := other.Append(7)
	l.Take(nil)
	l.Take(foreign)
	l.Take(nodes[1])
	l.Take(nodes[1])
	holds(t, &l, 1, 3)
	holds(t, &other, 7)
	if nodes[1].Next() != nil {
		t.Error("a node that was taken out still leads into the list")
	}
}

func TestValueIsKeptInItsPlace(t *testing.T) {
	var l List[int]
	nodes := three(&l)
	nodes[1].Value = 20
	holds(t, &l, 1, 20, 3)
}
