package node

import (
	"slices"

	"moot/api"
	"moot/set"
	"moot/wire"
)

// message is a message of the node's height and round with a chain.
func (n *Node) message(kind api.Kind, chain string) api.Msg {
	return api.Msg{Kind: kind, From: n.self, Height: n.height(), Round: n.round, Chain: chain, Prepared: api.NoRound}
}

// change is the node's word that it is for its round.
func (n *Node) change() api.Msg {
	m := n.message(api.Change, n.prepared.chain)
	m.Prepared, m.By = n.prepared.round, int(n.prepared.by)
	return m
}

// final tells how a height ended that the node is beyond.
func (n *Node) final(height int) api.Msg {
	seal := n.seals[height-1]
	return api.Msg{
		Kind: api.Final, From: n.self, Height: height, Round: seal.Round,
		Chain: n.chain[:height*api.Entry], Prepared: api.NoRound, By: int(seal.By),
	}
}

// ask asks how the node's height ended.
func (n *Node) ask() api.Msg {
	return api.Msg{Kind: api.Ask, From: n.self, Height: n.height(), Prepared: api.NoRound}
}

func (n *Node) sayToAll(m api.Msg) {
	n.send(m, slices.Collect(set.All.Nodes())...)
}

// send puts a packet with the message into the outbox for each of the nodes, in this order.
func (n *Node) send(m api.Msg, to ...int) {
	text, e := wire.Encode(m)
	if e != api.OK {
		return
	}
	for _, node := range to {
		n.outbox = append(n.outbox, api.Packet{From: n.self, To: node, Text: text})
	}
}
