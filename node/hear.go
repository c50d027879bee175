package node

import (
	"moot/api"
	"moot/chains"
	"moot/claims"
	"moot/set"
	"moot/wire"
)

// Hear takes a message that comes to the node.
func (n *Node) Hear(m api.Msg) {
	switch {
	case m.Height < n.height():
		if m.Kind != api.Final {
			n.send(n.final(m.Height), m.From)
		}
	case m.Height > n.height():
		if m.Kind != api.Ask {
			n.send(n.ask(), m.From)
		}
	case !n.isThrough() && n.fits(m):
		n.take(m)
	}
}

// fits tells whether a message of the node's height is about what may come next, and from one who has a say in it. (Final needs no sender of weight: it shows its seals.)
func (n *Node) fits(m api.Msg) bool {
	if m.Kind != api.Final && !n.members.Has(m.From) {
		return false
	}
	return n.extends(m.Chain) || m.Kind == api.Change && m.Prepared == api.NoRound
}

func (n *Node) take(m api.Msg) {
	switch m.Kind {
	case api.Final:
		n.takeFinal(m)
	case api.Propose:
		n.takePropose(m)
	case api.Prepare:
		n.takePrepare(m)
	case api.Commit:
		n.takeCommit(m)
	case api.Change:
		n.takeChange(m)
	}
}

func (n *Node) takeFinal(m api.Msg) {
	if by := n.membersIn(m.By); n.allSent(api.Commit, m.Round, m.Chain, by) {
		n.end(m.Chain, m.Round, by)
	}
}

func (n *Node) takePropose(m api.Msg) {
	if !n.isMember() || m.Round != n.round || m.From != n.leader() || n.accepted != "" {
		return
	}
	if m.Round > 0 && !n.justified(m) {
		return
	}
	n.accepted = m.Chain
	n.sayToAll(n.message(api.Prepare, m.Chain))
	n.lookWhetherPrepared()
}

func (n *Node) takePrepare(m api.Msg) {
	if m.Round < n.round {
		return
	}
	n.prepares.add(m)
	if n.isMember() {
		n.lookWhetherPrepared()
	}
}

func (n *Node) takeCommit(m api.Msg) {
	if by := n.commits.add(m); by.Size() >= n.quorum() {
		n.end(m.Chain, m.Round, by)
	}
}

func (n *Node) takeChange(m api.Msg) {
	move := wire.MoveOf(m)
	if m.Round == 0 || !n.isSound(move, m.Round) || !n.stand(m.Round, move) {
		return
	}
	if n.isMember() {
		n.lookWhetherBehind()
	}
	n.lookWhetherProposes()
}

// lookWhetherBehind begins a later round, if so many members are for later ones that a good one must be among them.
func (n *Node) lookWhetherBehind() {
	ahead, least := 0, api.MaxRound
	for _, round := range n.movesAbove(n.round, n.members) {
		ahead++
		least = min(least, round)
	}
	if ahead > chains.Faults(n.members.Size()) {
		n.begin(least)
	}
}

// justified tells whether a proposal's Moves allow its chain: none that may have been decided in an earlier round is passed over.
func (n *Node) justified(m api.Msg) bool {
	if len(m.Moves) < n.quorum() {
		return false
	}
	for _, move := range m.Moves {
		if !n.members.Has(move.Node) || !n.isSound(move, m.Round) || !n.believes(changeOf(m, move)) {
			return false
		}
	}
	best := preparedLast(m.Moves)
	return best.Prepared == api.NoRound || best.Chain == m.Chain
}

// changeOf is the Change by which a Move of a proposal must have been said.
func changeOf(proposal api.Msg, move api.Move) api.Msg {
	return api.Msg{
		Kind: api.Change, From: move.Node, Height: proposal.Height, Round: proposal.Round,
		Chain: move.Chain, Prepared: move.Prepared, By: move.By,
	}
}

func (n *Node) isSound(move api.Move, round int) bool {
	if move.Prepared == api.NoRound {
		return true
	}
	return 0 <= move.Prepared && move.Prepared < round && n.extends(move.Chain) &&
		n.allSent(api.Prepare, move.Prepared, move.Chain, n.membersIn(move.By))
}

func (n *Node) membersIn(by int) set.Set {
	return set.Set(by).Among(n.members)
}

// allSent tells whether these are a quorum, and each is believed to have said this of a round and chain of the node's height.
func (n *Node) allSent(kind api.Kind, round int, chain string, by set.Set) bool {
	said := api.Msg{Kind: kind, Height: n.height(), Round: round, Chain: chain, Prepared: api.NoRound}
	return by.Size() >= n.quorum() && claims.AllSent(by, said, n.believes)
}
