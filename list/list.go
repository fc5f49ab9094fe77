// Package list: a list of linked nodes, from which one can be taken out anywhere.
package list

// List is a list; its zero value is one of nothing.
type List[T any] struct {
	first *Node[T]
	last  *Node[T]
}

// Node is a place in a list.
type Node[T any] struct {
	Value  T
	before *Node[T]
	behind *Node[T]
	in     *List[T] // so that a node that is elsewhere, or nowhere, is never unlinked
}

// First is nil in a list of nothing.
func (l *List[T]) First() *Node[T] { return l.first }

// Next is nil behind the last node.
func (n *Node[T]) Next() *Node[T] { return n.behind }

// Append puts a value behind all others.
func (l *List[T]) Append(value T) *Node[T] {
	n := &Node[T]{Value: value, before: l.last, in: l}
	if l.last == nil {
		l.first = n
	} else {
		l.last.behind = n
	}
	l.last = n
	return n
}

// Take takes a node out; it does nothing if the node does not stand in this list.
func (l *List[T]) Take(n *Node[T]) {
	if n == nil || n.in != l {
		return
	}
	if n.before == nil {
		l.first = n.behind
	} else {
		n.before.behind = n.behind
	}
	if n.behind == nil {
		l.last = n.before
	} else {
		n.behind.before = n.before
	}
	n.before, n.behind, n.in = nil, nil, nil
}
