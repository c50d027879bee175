package node

import (
	"iter"

	"moot/api"
	"moot/set"
)

// heard is what was said to a node.
type heard struct {
	prepares, commits voices
	moves             map[mover]api.Move
}

// voices has, by round and chain, who said it.
type voices map[word]set.Set

type word struct {
	round int
	chain string
}

// A mover is a node that is for a round.
type mover struct {
	round, node int
}

func newHeard() heard {
	return heard{prepares: voices{}, commits: voices{}, moves: map[mover]api.Move{}}
}

// add puts the sender of a message to those who said the same, and tells who they are now.
func (v voices) add(m api.Msg) set.Set {
	said := word{m.Round, m.Chain}
	v[said] = v[said].With(m.From)
	return v[said]
}

// stand lets a Move stand for a round, if its node has none there: the first one counts.
func (h *heard) stand(round int, move api.Move) bool {
	by := mover{round, move.Node}
	if _, stands := h.moves[by]; stands {
		return false
	}
	h.moves[by] = move
	return true
}

// movesFor goes through the Moves of these nodes that stand for a round.
func (h *heard) movesFor(round int, nodes set.Set) iter.Seq[api.Move] {
	return func(yield func(api.Move) bool) {
		for node := range nodes.Nodes() {
			if move, stands := h.moves[mover{round, node}]; stands && !yield(move) {
				return
			}
		}
	}
}

// movesAbove goes through those of these nodes that have Moves of rounds above this one, each with the greatest of these rounds.
func (h *heard) movesAbove(round int, nodes set.Set) iter.Seq2[int, int] {
	return func(yield func(int, int) bool) {
		for node := range nodes.Nodes() {
			if top := h.greatest(node); top > round && !yield(node, top) {
				return
			}
		}
	}
}

// greatest is the greatest round for which a node has a Move; NoRound, if there is none.
func (h *heard) greatest(node int) int {
	for round := api.MaxRound; round > 0; round-- {
		if _, stands := h.moves[mover{round, node}]; stands {
			return round
		}
	}
	return api.NoRound
}
