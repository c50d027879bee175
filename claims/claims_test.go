package claims

import (
	"testing"

	"moot/api"
	"moot/set"
	"moot/wire"
)

func said(kind api.Kind, from int) api.Msg {
	return api.Msg{Kind: kind, From: from, Height: 1, Round: 2, Chain: "1.0", Prepared: api.NoRound}
}

func change(from int) api.Msg {
	return api.Msg{Kind: api.Change, From: from, Height: 1, Round: 2, Chain: "1.0", Prepared: 1, By: 7}
}

func packet(t *testing.T, m api.Msg) api.Packet {
	t.Helper()
	text, e := wire.Encode(m)
	if e != api.OK {
		t.Fatalf("Encode(%+v): %d", m, e)
	}
	return api.Packet{From: m.From, Text: text}
}

func mustBelieve(t *testing.T, r *Record, m api.Msg, want bool) {
	t.Helper()
	if got := r.Believes(m); got != want {
		t.Errorf("P6: Believes(%+v): %v", m, got)
	}
}

func TestGoodNodesAreBelievedToHaveSaidWhatTheySaid(t *testing.T) {
	r := New(0)
	for _, m := range []api.Msg{said(api.Prepare, 1), said(api.Commit, 2), change(3)} {
		mustBelieve(t, r, m, false)
		r.Note(packet(t, m), packet(t, m))
		mustBelieve(t, r, m, true)
		for _, other := range othersThan(m) {
			mustBelieve(t, r, other, false)
		}
	}
}

// othersThan are messages that differ from one in a single thing.
func othersThan(m api.Msg) []api.Msg {
	others := make([]api.Msg, 8)
	for i := range others {
		others[i] = m
	}
	others[0].From = 4
	others[1].Round = 3
	others[2].Chain = "2.0"
	others[3].By++
	others[4].Prepared++
	others[5].Kind = api.Final
	others[6].Height = 2
	others[7].Height, others[7].Chain = 2, "1.01.0"
	return others
}

func TestOfBadNodesAnythingIsBelieved(t *testing.T) {
	r := New(set.Set(0).With(3))
	for _, kind := range []api.Kind{api.Prepare, api.Commit} {
		for node := range 7 {
			mustBelieve(t, r, said(kind, node), node == 3)
		}
	}
	mustBelieve(t, r, change(3), true)
	mustBelieve(t, r, change(2), false)
}

func TestWhatCannotBeClaimedIsNotKept(t *testing.T) {
	r := New(0)
	ask := api.Msg{Kind: api.Ask, From: 1, Height: 1, Prepared: api.NoRound}
	propose := said(api.Propose, 1)
	propose.Round = 0
	for _, m := range []api.Msg{ask, propose, said(api.Final, 1)} {
		r.Note(packet(t, m))
	}
	if len(r.said) != 0 {
		t.Errorf("%d on record", len(r.said))
	}
}

func TestAllSent(t *testing.T) {
	r := New(set.Set(0).With(3))
	r.Note(packet(t, said(api.Commit, 0)), packet(t, said(api.Commit, 2)), packet(t, said(api.Prepare, 1)))
	for nodes := range set.All + 1 {
		want := nodes.Among(set.Set(1+4+8)) == nodes
		if got := AllSent(nodes, said(api.Commit, 5), r.Believes); got != want {
			t.Errorf("P8: AllSent(%b): %v", nodes, got)
		}
	}
}
