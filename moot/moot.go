// Package moot lets nodes agree on one block after the other. See DOC.md.
package moot

import (
	"moot/api"
	"moot/chains"
	"moot/wire"
)

// Members tells who may decide about the block behind a chain (P3).
func Members(nodes int, chain string) ([]int, api.Errno) {
	members, e := chains.Members(nodes, chain)
	if e != api.OK {
		return nil, e
	}
	list := make([]int, 0, members.Size())
	for node := range members.Nodes() {
		list = append(list, node)
	}
	return list, api.OK
}

// Leader tells who proposes the block behind a chain in a round (P3).
func Leader(nodes int, chain string, round int) (int, api.Errno) {
	return chains.Leader(nodes, chain, round)
}

// Encode writes a message (P4).
func Encode(m api.Msg) (string, api.Errno) { return wire.Encode(m) }

// Decode reads a message (P4).
func Decode(s string) (api.Msg, api.Errno) { return wire.Decode(s) }
