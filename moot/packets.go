package moot

import (
	"slices"
	"strings"
	"sync"

	"moot/api"
	"moot/node"
	"moot/set"
	"moot/wire"
)

// put lays packets at the end of the bag; those that it has no room for are lost.
func (w *World) put(packets ...api.Packet) {
	room := api.MaxBag - len(w.bag)
	w.bag = append(w.bag, packets[:min(room, len(packets))]...)
}

// take takes a packet out of the bag.
func (w *World) take(at int) api.Packet {
	packet := w.bag[at]
	w.bag = slices.Delete(w.bag, at, at+1)
	return packet
}

// inject lays a bad node's packet into the bag. Its text is copied, as nothing that is handed in is kept.
func (w *World) inject(s api.Step) {
	w.put(api.Packet{From: s.A, To: s.B, Text: strings.Clone(s.Text)})
}

// gather brings what a node has sent onto record and into the bag.
func (w *World) gather(number int) {
	sent := w.nodes[number].TakeOutbox()
	w.record.Note(sent...)
	w.put(sent...)
}

// deliver brings a packet to its node, if that is good and up.
func (w *World) deliver(packet api.Packet) {
	if w.isUp(packet.To) {
		hear(w.nodes[packet.To], packet)
		w.gather(packet.To)
	}
}

// hear hands a packet's message to a node, if it is from the node that it says.
func hear(to *node.Node, packet api.Packet) {
	if m, e := readFrom(packet.From, packet.Text); e == api.OK {
		to.Hear(m)
	}
}

// readFrom reads a message that must be from this node.
func readFrom(number int, text string) (api.Msg, api.Errno) {
	m, e := wire.Decode(text)
	if e != api.OK || m.From != number {
		return api.Msg{}, api.ErrForm
	}
	return m, api.OK
}

// round brings all packets to their nodes, and lets a tick go by. What is sent comes onto record only when all is over: in a round the claims count that were true when it began.
func (w *World) round() {
	packets, up := w.bag, w.upNodes()
	w.bag = nil
	w.handOut(packets, up)
	for number := range up.Nodes() {
		w.nodes[number].Tick()
		w.gather(number)
	}
}

// handOut lets each of these nodes hear its packets, all of them at the same time.
func (w *World) handOut(packets []api.Packet, nodes set.Set) {
	var inboxes [api.MaxNodes]chan api.Packet
	noMore := make(chan struct{})
	var listeners sync.WaitGroup
	for number := range nodes.Nodes() {
		inbox := make(chan api.Packet)
		inboxes[number] = inbox
		listeners.Add(1)
		go func() {
			defer listeners.Done()
			listen(w.nodes[number], inbox, noMore)
		}()
	}
	for _, packet := range packets {
		if inbox := inboxes[packet.To]; inbox != nil {
			inbox <- packet
		}
	}
	close(noMore)
	listeners.Wait()
}

// listen lets a node hear packets until there are no more. An inbox holds none back, so when that word comes each packet has been taken.
func listen(to *node.Node, inbox <-chan api.Packet, noMore <-chan struct{}) {
	for {
		select {
		case packet := <-inbox:
			hear(to, packet)
		case <-noMore:
			return
		}
	}
}
