package node

import (
	"slices"

	"moot/api"
	"moot/chains"
	"moot/ledgers"
	"moot/set"
)

// begin begins a round.
func (n *Node) begin(round int) {
	n.round, n.left = round, ticks(round)
	n.accepted, n.proposed, n.sent = "", false, false
	if !n.isMember() {
		return
	}
	if round > 0 {
		n.sayToAll(n.change())
		n.lookWhetherProposes()
	} else if n.leader() == n.self {
		n.propose(n.newBlock())
	}
}

// newBlock is the node's chain with a block of its own.
func (n *Node) newBlock() string {
	return n.chain + chains.Block(n.self, n.vote)
}

// propose says a chain to all, with the Moves that justify it.
func (n *Node) propose(chain string, moves ...api.Move) {
	n.proposed = true
	m := n.message(api.Propose, chain)
	m.Moves = moves
	n.sayToAll(m)
}

func (n *Node) lookWhetherProposes() {
	if n.round == 0 || n.proposed || n.leader() != n.self {
		return
	}
	moves := slices.Collect(n.movesFor(n.round, n.members))
	if len(moves) < n.quorum() {
		return
	}
	chain := n.newBlock()
	if best := preparedLast(moves); best.Prepared != api.NoRound {
		chain = best.Chain
	}
	n.propose(chain, moves...)
}

// preparedLast is the Move with the greatest Prepared; of several that of the least node, as they come by rising nodes.
func preparedLast(moves []api.Move) api.Move {
	best := api.Move{Prepared: api.NoRound}
	for _, move := range moves {
		if move.Prepared > best.Prepared {
			best = move
		}
	}
	return best
}

func (n *Node) lookWhetherPrepared() {
	if n.accepted == "" || n.sent {
		return
	}
	by := n.prepares[word{n.round, n.accepted}]
	if by.Size() < n.quorum() {
		return
	}
	n.prepared = certificate{round: n.round, chain: n.accepted, by: by}
	n.sent = true
	n.sayToAll(n.message(api.Commit, n.accepted))
}

// end ends the height with a chain, decided in a round by the Commits of these.
func (n *Node) end(chain string, round int, by set.Set) {
	n.chain = chain
	n.seals = append(n.seals, ledgers.Seal{Round: round, By: by})
	n.members, _ = chains.Members(n.first, chain)
	n.prepared = never()
	n.heard = newHeard()
	n.round, n.left = 0, 0
	n.accepted, n.proposed, n.sent = "", false, false
	if !n.isThrough() {
		n.begin(0)
	}
}

// Tick lets time go by for the node.
func (n *Node) Tick() {
	if n.isThrough() {
		return
	}
	n.left--
	if n.left > 0 {
		return
	}
	if n.isMember() && n.round < api.MaxRound {
		n.begin(n.round + 1)
		return
	}
	n.left = ticks(n.round)
	if !n.isMember() {
		n.sayToAll(n.ask())
	}
}
