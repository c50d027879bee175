package moot

import (
	"slices"

	"moot/api"
	"moot/chains"
	"moot/claims"
	"moot/ledgers"
	"moot/node"
	"moot/set"
)

// World is nodes, and packets on their way.
type World struct {
	first  int // how many nodes were members at first
	bad    set.Set
	nodes  [api.MaxNodes]*node.Node // none for a bad one, as that does nothing by itself
	record *claims.Record
	bag    []api.Packet
}

// New makes a world (P5).
func New(c api.Config) (*World, api.Errno) {
	if c.Nodes < api.MinNodes || c.Nodes > api.MaxNodes || !set.IsSet(c.Bad) {
		return nil, api.ErrConfig
	}
	bad := set.Set(c.Bad)
	w := &World{first: c.Nodes, bad: bad, record: claims.New(bad)}
	for number := range set.All.Nodes() {
		if !bad.Has(number) {
			w.nodes[number] = node.New(number, c.Nodes, w.record.Believes)
			w.gather(number)
		}
	}
	return w, api.OK
}

// Do does a step (P6).
func (w *World) Do(s api.Step) api.Errno {
	if w == nil {
		return api.ErrNode
	}
	if !w.canBe(s) {
		return api.ErrStep
	}
	w.step(s)
	return api.OK
}

// Bag tells what is on its way (P6).
func (w *World) Bag() []api.Packet {
	if w == nil {
		return nil
	}
	return slices.Clone(w.bag)
}

// View tells what a node knows (P7).
func (w *World) View(node int) (api.View, api.Errno) {
	if w == nil || !w.isGood(node) {
		return api.View{}, api.ErrNode
	}
	return w.nodes[node].View(), api.OK
}

// Ledger tells a node's chain with its seals, as bytes (P8).
func (w *World) Ledger(node int) (string, api.Errno) {
	if w == nil || !w.isGood(node) {
		return "", api.ErrNode
	}
	return w.nodes[node].Ledger(), api.OK
}

// Follow looks whether bytes are a chain with its seals (P8).
func (w *World) Follow(ledger string) (string, api.Errno) {
	if w == nil {
		return "", api.ErrNode
	}
	return ledgers.Follow(w.first, ledger, w.record.Believes)
}

func (w *World) canBe(s api.Step) bool {
	switch s.Act {
	case api.Deliver, api.Drop, api.Copy:
		return 0 <= s.A && s.A < len(w.bag)
	case api.Tick, api.Crash:
		return w.isUp(s.A)
	case api.Round:
		return true
	case api.Vote:
		return w.isUp(s.A) && set.IsNode(s.B) && 0 <= s.C && s.C < chains.Ways
	case api.Restart:
		return w.isGood(s.A) && !w.isUp(s.A)
	case api.Inject:
		_, e := readFrom(s.A, s.Text)
		return w.bad.Has(s.A) && set.IsNode(s.B) && e == api.OK
	}
	return false
}

// step does a step that can be.
func (w *World) step(s api.Step) {
	switch s.Act {
	case api.Deliver:
		w.deliver(w.take(s.A))
	case api.Drop:
		w.take(s.A)
	case api.Copy:
		w.put(w.bag[s.A])
	case api.Tick:
		w.nodes[s.A].Tick()
		w.gather(s.A)
	case api.Round:
		w.round()
	case api.Vote:
		w.nodes[s.A].SetVote(chains.Vote{How: s.C, About: s.B})
	case api.Crash:
		w.nodes[s.A].Crash()
	case api.Restart:
		w.nodes[s.A].Restart()
	case api.Inject:
		w.inject(s)
	}
}

func (w *World) isGood(number int) bool {
	return set.IsNode(number) && w.nodes[number] != nil
}

func (w *World) isUp(number int) bool {
	return w.isGood(number) && w.nodes[number].IsUp()
}

// upNodes is the set of the good nodes that are up.
func (w *World) upNodes() set.Set {
	var up set.Set
	for number := range set.All.Nodes() {
		if w.isUp(number) {
			up = up.With(number)
		}
	}
	return up
}
