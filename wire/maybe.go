// Package wire writes messages as bytes and reads them.
package wire

import (
	"moot/api"
	"moot/set"
)

// MayBe tells whether a message may be (P4).
func MayBe(m api.Msg) bool {
	return headMayBe(m) && bodyMayBe(m)
}

func headMayBe(m api.Msg) bool {
	topHeight, topRound := api.MaxHeight+1, api.MaxRound
	if m.Kind == api.Ask {
		topHeight, topRound = api.MaxHeight, 0
	}
	return set.IsNode(m.From) && within(m.Height, 1, topHeight) && within(m.Round, 0, topRound)
}

// bodyMayBe looks at what stands behind the head; a height that may be keeps the chain's length from wrapping round.
func bodyMayBe(m api.Msg) bool {
	switch m.Kind {
	case api.Propose:
		return hasChain(m) && m.Prepared == api.NoRound && m.By == 0 && movesMayBe(m)
	case api.Prepare, api.Commit:
		return hasChain(m) && m.Prepared == api.NoRound && m.By == 0 && len(m.Moves) == 0
	case api.Change:
		return len(m.Moves) == 0 && moveMayBe(MoveOf(m), m.Height, m.Round)
	case api.Final:
		return hasChain(m) && m.Prepared == api.NoRound && set.IsSet(m.By) && len(m.Moves) == 0
	case api.Ask:
		return m.Chain == "" && m.Prepared == api.NoRound && m.By == 0 && len(m.Moves) == 0
	}
	return false
}

func hasChain(m api.Msg) bool {
	return len(m.Chain) == m.Height*api.Entry
}

// MoveOf is what a Change says, as a Move of its sender: both hold the same and are written alike.
func MoveOf(m api.Msg) api.Move {
	return api.Move{Node: m.From, Prepared: m.Prepared, Chain: m.Chain, By: m.By}
}

func movesMayBe(m api.Msg) bool {
	if m.Round == 0 {
		return len(m.Moves) == 0
	}
	if !within(len(m.Moves), 1, api.MaxNodes) {
		return false
	}
	last := -1
	for _, move := range m.Moves {
		if move.Node <= last || !set.IsNode(move.Node) || !moveMayBe(move, m.Height, m.Round) {
			return false
		}
		last = move.Node
	}
	return true
}

func moveMayBe(move api.Move, height, round int) bool {
	if move.Prepared == api.NoRound {
		return move.Chain == "" && move.By == 0
	}
	return within(move.Prepared, 0, round-1) && len(move.Chain) == height*api.Entry && set.IsSet(move.By)
}

func within(n, low, high int) bool {
	return low <= n && n <= high
}
