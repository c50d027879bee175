// Package claims keeps what good nodes have said, and tells which claims about nodes are believed.
package claims

import (
	"moot/api"
	"moot/set"
	"moot/wire"
)

// A Record holds the messages that good nodes have sent, as far as they can be claimed.
type Record struct {
	bad  set.Set
	said map[string]struct{}
}

// New is a record in which nothing has been said yet.
func New(bad set.Set) *Record {
	return &Record{bad: bad, said: map[string]struct{}{}}
}

// Note puts packets on record, as sent by their nodes: also those that get lost, as sent they are.
func (r *Record) Note(packets ...api.Packet) {
	for _, packet := range packets {
		if canBeClaimed(packet.Text) {
			r.said[packet.Text] = struct{}{}
		}
	}
}

// canBeClaimed looks at the kind, the first byte of a message.
func canBeClaimed(text string) bool {
	switch api.Kind(text[0]) {
	case api.Prepare, api.Commit, api.Change:
		return true
	}
	return false
}

// Believes tells whether it is believed that a message was sent by the node that it is from: bad nodes are held to have said anything.
func (r *Record) Believes(m api.Msg) bool {
	if r.bad.Has(m.From) {
		return true
	}
	text, e := wire.Encode(m)
	_, said := r.said[text]
	return e == api.OK && said
}

// AllSent tells whether it is believed of each of these nodes that it sent this message, whoever that is from.
func AllSent(nodes set.Set, m api.Msg, believes func(api.Msg) bool) bool {
	for node := range nodes.Nodes() {
		m.From = node
		if !believes(m) {
			return false
		}
	}
	return true
}
