package move

import "tinderbox/api"

// ident is an ID, by whose methods, as values, moves are told apart.
type ident string

// isOf: is it a move's?
func (i ident) isOf(m api.Move) bool {
	return string(i) == m.ID
}

// isAheadOf: is it lower than a move's?
func (i ident) isAheadOf(m api.Move) bool {
	return string(i) < m.ID
}
