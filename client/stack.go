package client

import "slices"

// stack keeps so many things at most: of more the undermost goes.
type stack[T any] struct {
	most   int
	things []T
}

func (s *stack[T]) push(t T) {
	s.things = append(s.things, t)
	if len(s.things) > s.most {
		s.things = slices.Delete(s.things, 0, 1)
	}
}

// top is the uppermost, false if there is none.
func (s *stack[T]) top() (T, bool) {
	if len(s.things) == 0 {
		var none T
		return none, false
	}
	return s.things[len(s.things)-1], true
}

func (s *stack[T]) pop() { s.things = slices.Delete(s.things, len(s.things)-1, len(s.things)) }

func (s *stack[T]) empty() { s.things = nil }

func (s *stack[T]) clone() stack[T] {
	return stack[T]{most: s.most, things: slices.Clone(s.things)}
}
