package script

import "wigwag/board"

// Board is a show's bulletin, for the tests: with something on it that no step put there, it refuses what the world lets pass.
func (s *Show) Board() *board.Board {
	return s.board
}
