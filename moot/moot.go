// Package moot lets nodes agree on one block after the other. See DOC.md.
package moot

import (
	"moot/api"
	"moot/chains"
	"moot/wire"
)

// Members tells who may decide about the block behind a chain (P3).
func Members(nodes int, chain string) ([]int, api.Errno) {
	members, e := chains.Members(nodes, chain)
	if e != api.OK {
		return nil, e
	}
	list := make([]int, 0, members.Size())
	for node := range members.Nodes() {
		list = append(list, node)
	}
	return list, api.OK
}

// Leader tells who proposes the block behind a chain in a round (P3).
func Leader(nodes int, chain string, round int) (int, api.Errno) {
	return chains.Leader(nodes, chain, round)
}

// Encode writes a message (P4).
func Encode(m api.Msg) (string, api.Errno) { return wire.Encode(m) }

// Decode reads a message (P4).
func Decode(s string) (api.Msg, api.Errno) { return wire.Decode(s) }

// World is nodes, and packets on their way.
type World struct{}

// New makes a world (P5).
func New(c api.Config) (*World, api.Errno) { return nil, api.OK }

// Do does a step (P6).
func (w *World) Do(s api.Step) api.Errno { return api.OK }

// Bag tells what is on its way (P6).
func (w *World) Bag() []api.Packet { return nil }

// View tells what a node knows (P7).
func (w *World) View(node int) (api.View, api.Errno) { return api.View{}, api.OK }

// Ledger tells a node's chain with its seals, as bytes (P8).
func (w *World) Ledger(node int) (string, api.Errno) { return "", api.OK }

// Follow looks whether bytes are a chain with its seals (P8).
func (w *World) Follow(ledger string) (string, api.Errno) { return "", api.OK }
