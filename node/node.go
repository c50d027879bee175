// Package node is what a good node has and does.
package node

import (
	"moot/api"
	"moot/chains"
	"moot/ledgers"
	"moot/set"
)

// A Node is a good node. What it sends lies in its outbox until it is taken.
type Node struct {
	self     int
	first    int // how many nodes were members at first
	believes func(api.Msg) bool
	up       bool
	members  set.Set // of its height; they follow from its chain
	kept
	left int
	heard
	outbox []api.Packet
}

// kept is what a node keeps when it crashes.
type kept struct {
	chain          string
	seals          []ledgers.Seal // of each block of the chain
	round          int
	accepted       string
	proposed, sent bool
	prepared       certificate
	vote           chains.Vote
}

// A certificate tells the last round in which a node was prepared, for which chain, and by whose Prepares.
type certificate struct {
	round int
	chain string
	by    set.Set
}

// never is the certificate of who was prepared in no round.
func never() certificate {
	return certificate{round: api.NoRound}
}

// New is a good node that is up, and begins. Which claims it believes is told by a function.
func New(self, first int, believes func(api.Msg) bool) *Node {
	n := &Node{self: self, first: first, believes: believes, up: true, members: set.First(first)}
	n.prepared = never()
	n.heard = newHeard()
	n.begin(0)
	return n
}

// IsUp tells whether the node is up.
func (n *Node) IsUp() bool { return n.up }

// SetVote lets the blocks that the node makes from now on have this vote.
func (n *Node) SetVote(vote chains.Vote) { n.vote = vote }

// Crash takes from the node what it does not keep.
func (n *Node) Crash() {
	n.up = false
	n.left = 0
	n.heard = newHeard()
}

// Restart brings a node back with what it kept.
func (n *Node) Restart() {
	n.up = true
	if !n.isThrough() {
		n.left = ticks(n.round)
	}
}

// View is what the node knows.
func (n *Node) View() api.View {
	return api.View{
		Up: n.up, Sent: n.sent,
		Chain: n.chain, Round: n.round, Left: n.left, Accepted: n.accepted,
		Prepared: n.prepared.round, For: n.prepared.chain, By: int(n.prepared.by),
	}
}

// Ledger is the node's chain with its seals, as bytes.
func (n *Node) Ledger() string {
	return ledgers.Write(n.chain, n.seals...)
}

// TakeOutbox takes what the node has sent since this was asked last, in the order of sending.
func (n *Node) TakeOutbox() []api.Packet {
	sent := n.outbox
	n.outbox = nil
	return sent
}

// height is that of the block that the node is about to have.
func (n *Node) height() int { return chains.Blocks(n.chain) + 1 }

// isThrough tells whether the node's chain has all the blocks that it may have: then there is nothing left to agree on.
func (n *Node) isThrough() bool { return n.height() > api.MaxHeight }

func (n *Node) isMember() bool { return n.members.Has(n.self) }

func (n *Node) quorum() int { return chains.Quorum(n.members.Size()) }

func (n *Node) leader() int { return chains.LeaderOf(n.members, n.height(), n.round) }

// extends tells whether a chain is the node's and one block more that may be.
func (n *Node) extends(chain string) bool { return chains.Extends(n.first, n.chain, chain) }

// ticks is how long a round lasts.
func ticks(round int) int { return api.Base << round }
