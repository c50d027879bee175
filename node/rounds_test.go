package node

import (
	"fmt"
	"testing"

	"moot/api"
	"moot/chains"
)

func none(node int) api.Move { return api.Move{Node: node, Prepared: api.NoRound} }

func was(node, prepared int, chain string, by int) api.Move {
	return api.Move{Node: node, Prepared: prepared, Chain: chain, By: by}
}

func TestRoundsGetLonger(t *testing.T) {
	b := begun(t, 0, 4, doubtful)
	for round := range 9 {
		b.tick(4<<round - 1)
		b.says()
		b.is(api.View{Up: true, Round: round, Left: 1, Prepared: -1})
		b.Tick()
		b.says(fmt.Sprintf("change 1/%d  to all", round+1))
		b.is(api.View{Up: true, Round: round + 1, Left: 4 << (round + 1), Prepared: -1})
	}
	for range 2 {
		b.tick(2047)
		b.is(api.View{Up: true, Round: 9, Left: 1, Prepared: -1})
		b.Tick()
		b.is(api.View{Up: true, Round: 9, Left: 2048, Prepared: -1})
	}
	b.says()
}

func TestWhoIsNoMemberAsks(t *testing.T) {
	b := begun(t, 4, 4, doubtful)
	for range 3 {
		b.tick(3)
		b.says()
		b.Tick()
		b.says("ask 1/0  to all")
		b.is(api.View{Up: true, Left: 4, Prepared: -1})
	}
	b.decide(0, "1.0")
	b.tick(4)
	b.says("ask 2/0  to all")
}

func TestWhoWasPreparedSaysSo(t *testing.T) {
	b := begun(t, 0, 4, doubtful)
	b.hear(propose(1, 0, "1.0"), prepare(3, 0, "1.0"), prepare(2, 0, "1.0"), prepare(0, 0, "1.0"))
	b.TakeOutbox()
	b.tick(4)
	b.says("change 1/1 1.0 of 0 by 13 to all")
	b.is(api.View{Up: true, Round: 1, Left: 8, Prepared: 0, For: "1.0", By: 13})
	b.Crash()
	b.Restart()
	b.tick(8)
	b.says("change 1/2 1.0 of 0 by 13 to all")
}

// Node 2 leads round 1 of height 1 of four, node 3 round 2.
func TestTheLeaderOfALaterRoundProposes(t *testing.T) {
	b := begun(t, 2, 4, gullible)
	b.SetVote(chains.Vote{How: 1, About: 6})
	b.tick(4)
	b.says("change 1/1  to all")
	b.hear(changed(3, 1), changed(2, 1), changed(3, 1), changed(5, 1))
	b.says()
	b.hear(changed(0, 1))
	b.says("propose 1/1 2+6 {0: -1  0} {2: -1  0} {3: -1  0} to all")
	b.hear(changed(1, 1))
	b.says()
}

// With four members it leads round 5 again.
func TestALeaderProposesOnceInEachOfItsRounds(t *testing.T) {
	b := begun(t, 2, 4, gullible)
	for _, round := range []int{1, 5, 9} {
		b.hear(changed(0, round), changed(1, round))
		b.says(fmt.Sprintf("change 1/%d  to all", round))
		b.hear(changed(2, round))
		b.says(fmt.Sprintf("propose 1/%d 2.0 {0: -1  0} {1: -1  0} {2: -1  0} to all", round))
		b.hear(changed(3, round))
		b.says()
	}
}

func TestWhoDoesNotLeadDoesNotPropose(t *testing.T) {
	for _, self := range []int{0, 1, 3, 5} {
		b := begun(t, self, 4, gullible)
		b.tick(4)
		b.TakeOutbox()
		b.hear(changed(0, 1), changed(1, 1), changed(2, 1), changed(3, 1))
		b.says()
	}
}

func TestMovesThatCameAheadAreUsed(t *testing.T) {
	b := begun(t, 3, 4, gullible)
	b.tick(4)
	b.tick(7)
	b.says("change 1/1  to all")
	b.hear(changed(0, 2), carried(3, 2, 1, "2.0", 7))
	b.says("change 1/2  to all")
	b.hear(changed(1, 2))
	b.says("propose 1/2 2.0 {0: -1  0} {1: -1  0} {3: 1 2.0 7} to all")
}

func TestAllMovesThatStandAreShown(t *testing.T) {
	b := begun(t, 2, 7, gullible)
	b.tick(4)
	b.TakeOutbox()
	b.hear(changed(4, 1), changed(6, 1), changed(0, 1), changed(1, 1))
	b.says()
	b.hear(changed(5, 1))
	b.says("propose 1/1 2.0 {0: -1  0} {1: -1  0} {4: -1  0} {5: -1  0} {6: -1  0} to all")
	b.hear(changed(3, 1))
	b.says()
}

func TestTheGreatestPreparedIsProposed(t *testing.T) {
	for _, c := range []struct {
		moves []api.Msg
		want  string
	}{
		{[]api.Msg{changed(0, 3), carried(1, 3, 0, "1.0", 7), changed(2, 3)}, "1.0"},
		{[]api.Msg{carried(0, 3, 0, "1.0", 7), carried(1, 3, 2, "2.0", 7), carried(2, 3, 1, "3.0", 7)}, "2.0"},
		{[]api.Msg{carried(3, 3, 1, "1.0", 7), carried(2, 3, 1, "2.0", 7), carried(1, 3, 1, "3.0", 7)}, "3.0"},
		{[]api.Msg{changed(3, 3), changed(2, 3), changed(1, 3)}, "0.0"},
	} {
		b := begun(t, 0, 4, gullible) // leads round 3
		b.tick(4 + 8 + 16)
		b.TakeOutbox()
		b.hear(c.moves...)
		packets := b.outbox
		if len(packets) != 7 || packets[0].Text[4:7] != c.want {
			t.Errorf("P6: %+v: %#v, want %q", c.moves, packets, c.want)
		}
	}
}

func TestTheFirstMoveStands(t *testing.T) {
	b := begun(t, 2, 4, gullible)
	b.tick(4)
	b.TakeOutbox()
	b.hear(carried(0, 1, 0, "1.0", 7), carried(0, 1, 0, "3.0", 7), changed(0, 1), changed(1, 1), carried(1, 1, 0, "3.0", 7), changed(3, 1))
	b.says("propose 1/1 1.0 {0: 0 1.0 7} {1: -1  0} {3: -1  0} to all")
}

func TestMovesThatAreNotSoundDoNotStand(t *testing.T) {
	onlyOf := func(of ...int) func(api.Msg) bool {
		return func(m api.Msg) bool {
			for _, node := range of {
				if m.From == node && m.Kind == api.Prepare && m.Height == 1 && m.Round == 1 && m.Chain == "1.0" {
					return true
				}
			}
			return false
		}
	}
	for _, c := range []struct {
		move     api.Msg
		believes func(api.Msg) bool
		want     int
	}{
		{changed(0, 2), doubtful, 1},
		{changed(0, 0), gullible, 0},
		{changed(4, 2), gullible, 0},
		{carried(0, 2, 1, "1.0", 7), gullible, 1},
		{carried(0, 2, 1, "1.0", 7), onlyOf(0, 1, 2), 1},
		{carried(0, 2, 1, "1.0", 64+7), onlyOf(0, 1, 2), 1},
		{carried(0, 2, 1, "1.0", 15), onlyOf(0, 1, 2), 0},
		{carried(0, 2, 1, "1.0", 7), onlyOf(0, 1, 3), 0},
		{carried(0, 2, 0, "1.0", 7), onlyOf(0, 1, 2), 0},
		{carried(0, 2, 1, "2.0", 7), onlyOf(0, 1, 2), 0},
		{carried(0, 2, 2, "1.0", 7), gullible, 0},
		{carried(0, 2, -2, "1.0", 7), gullible, 0},
		{carried(0, 2, 1, "1.0", 112+3), gullible, 0},
		{carried(0, 2, 1, "1.0", 0), gullible, 0},
		{carried(0, 2, 1, "4.0", 7), gullible, 0},
		{carried(0, 2, 1, "1-7", 7), gullible, 0},
	} {
		b := begun(t, 2, 4, c.believes)
		b.hear(c.move)
		if len(b.moves) != c.want {
			t.Errorf("P6: of %+v %d stand, want %d", c.move, len(b.moves), c.want)
		}
	}
}

func TestMoreThanFAheadAreFollowed(t *testing.T) {
	for _, c := range []struct {
		first  int
		moves  []api.Msg
		rounds []int // behind each of them
	}{
		{4, []api.Msg{changed(1, 1), changed(2, 1)}, []int{0, 1}},
		{4, []api.Msg{changed(1, 5), changed(2, 3)}, []int{0, 3}},
		{4, []api.Msg{changed(1, 1), changed(1, 2), changed(1, 9), changed(3, 8)}, []int{0, 0, 0, 8}},
		{4, []api.Msg{changed(4, 1), changed(5, 1), changed(1, 1)}, []int{0, 0, 0}},
		{4, []api.Msg{changed(1, 9), changed(2, 9), changed(3, 9)}, []int{0, 9, 9}},
		{4, []api.Msg{changed(1, 9), changed(2, 2), changed(1, 1), changed(3, 4)}, []int{0, 2, 2, 4}},
		{6, []api.Msg{changed(5, 2), changed(4, 3)}, []int{0, 2}},
		{7, []api.Msg{changed(6, 4), changed(5, 2), changed(5, 3), changed(4, 7)}, []int{0, 0, 0, 3}},
	} {
		b := begun(t, 0, c.first, doubtful)
		for i, m := range c.moves {
			before := b.View().Round
			b.hear(m)
			if got := b.View(); got.Round != c.rounds[i] || got.Round != before && got.Left != 4<<got.Round {
				t.Errorf("P6: %d members, %+v: behind %d: %+v", c.first, c.moves, i, got)
			}
		}
	}
	b := begun(t, 4, 4, doubtful)
	b.hear(changed(1, 1), changed(2, 1), changed(3, 1))
	b.is(api.View{Up: true, Left: 4, Prepared: -1})
	b.says()
}

func TestWhoFollowsSaysChangeOnceAndMayPropose(t *testing.T) {
	b := begun(t, 2, 4, doubtful)
	b.hear(changed(0, 1))
	b.says()
	b.hear(changed(1, 1))
	b.says("change 1/1  to all")
	b.hear(changed(3, 1))
	b.says("propose 1/1 2.0 {0: -1  0} {1: -1  0} {3: -1  0} to all")

	b = begun(t, 3, 4, doubtful) // leads round 2, and has all it needs when it comes there
	b.tick(4)
	b.hear(changed(0, 2), changed(0, 3))
	b.TakeOutbox()
	b.hear(changed(1, 2))
	b.says("change 1/2  to all")
	b.hear(changed(2, 2))
	b.says("propose 1/2 3.0 {0: -1  0} {1: -1  0} {2: -1  0} to all")
}

func TestJustified(t *testing.T) {
	three := []api.Move{none(0), none(1), none(2)}
	for _, c := range []struct {
		chain string
		moves []api.Move
		want  bool
	}{
		{"2.0", three, true},
		{"3+6", three, true},
		{"2.0", three[:2], false},
		{"2.0", []api.Move{none(0), none(1), none(2), none(3)}, true},
		{"2.0", []api.Move{none(0), none(1), none(5)}, false},
		{"2.0", []api.Move{none(0), none(1), none(2), none(5)}, false},
		{"1.0", []api.Move{none(0), was(1, 0, "1.0", 7), none(2)}, true},
		{"2.0", []api.Move{none(0), was(1, 0, "1.0", 7), none(2)}, false},
		{"1.0", []api.Move{was(0, 0, "3.0", 7), was(1, 1, "1.0", 7), none(2)}, true},
		{"3.0", []api.Move{was(0, 0, "3.0", 7), was(1, 1, "1.0", 7), none(2)}, false},
		{"3.0", []api.Move{was(0, 1, "3.0", 7), was(1, 1, "1.0", 7), none(2)}, true},
		{"1.0", []api.Move{was(0, 1, "3.0", 7), was(1, 1, "1.0", 7), none(2)}, false},
		{"1.0", []api.Move{none(0), was(1, 0, "1.0", 64+3), none(2)}, false},
		{"1.0", []api.Move{none(0), was(1, 0, "1.0", 64+7), none(2)}, true},
		{"2.0", []api.Move{was(0, 0, "6.0", 7), was(1, 1, "2.0", 7), none(2)}, false},
	} {
		b := begun(t, 0, 4, gullible)
		b.begin(2)
		b.TakeOutbox()
		b.hear(propose(3, 2, c.chain, c.moves...))
		if got := b.View().Accepted == c.chain; got != c.want {
			t.Errorf("P6: %q with %+v: accepted: %v", c.chain, c.moves, got)
		}
	}
}

func TestInRoundOneMovesAreNeeded(t *testing.T) {
	b := begun(t, 0, 4, gullible)
	b.tick(4)
	b.TakeOutbox()
	b.hear(propose(2, 1, "2.0"), propose(2, 1, "2.0", none(0), none(3)), propose(2, 1, "2.0", none(0), none(1), was(3, 0, "1.0", 7)))
	b.says()
	b.hear(propose(2, 1, "1.0", none(0), none(1), was(3, 0, "1.0", 7)))
	b.says("prepare 1/1 1.0 to all")
}

// What is shown must have been said: each Change as it is, each Prepare of a certificate.
func TestJustifiedByWhatWasSaid(t *testing.T) {
	m := propose(3, 2, "1.0", none(0), was(1, 1, "1.0", 13), none(2))
	needed := []api.Msg{changed(0, 2), carried(1, 2, 1, "1.0", 13), changed(2, 2), prepare(0, 1, "1.0"), prepare(2, 1, "1.0"), prepare(3, 1, "1.0")}
	for missing := range len(needed) + 1 {
		believes := func(m api.Msg) bool {
			for i, other := range needed {
				if i != missing && tell(m) == tell(other) && m.From == other.From {
					return true
				}
			}
			return false
		}
		b := begun(t, 0, 4, believes)
		b.begin(2)
		b.TakeOutbox()
		b.hear(m)
		if got := b.View().Accepted == "1.0"; got != (missing == len(needed)) {
			t.Errorf("P6: without %d: accepted: %v", missing, got)
		}
	}
}

func TestACrashTakesWhatIsNotKept(t *testing.T) {
	b := begun(t, 2, 4, gullible)
	b.SetVote(chains.Vote{How: 2, About: 3})
	b.tick(4)
	b.hear(changed(0, 1), changed(1, 1), prepare(0, 1, "2-3"), prepare(1, 1, "2-3"), commit(0, 1, "2-3"), commit(1, 1, "2-3"))
	b.tick(3)
	b.TakeOutbox()
	b.Crash()
	b.is(api.View{Round: 1, Prepared: -1})
	b.Restart()
	b.is(api.View{Up: true, Round: 1, Left: 8, Prepared: -1})
	b.hear(changed(3, 1), prepare(3, 1, "2-3"), commit(3, 1, "2-3"))
	b.says()
	b.is(api.View{Up: true, Round: 1, Left: 8, Prepared: -1})
	b.hear(changed(0, 1), changed(1, 1))
	b.says("propose 1/1 2-3 {0: -1  0} {1: -1  0} {3: -1  0} to all")
	b.Crash()
	b.Restart()
	b.hear(changed(0, 1), changed(1, 1), changed(3, 1))
	b.says()
}

func TestACrashLeavesWhatWasPreparedAndSent(t *testing.T) {
	b := begun(t, 0, 4, doubtful)
	three := []api.Msg{prepare(0, 0, "1.0"), prepare(1, 0, "1.0"), prepare(2, 0, "1.0")}
	b.hear(propose(1, 0, "1.0"))
	b.hear(three...)
	b.TakeOutbox()
	b.Crash()
	b.is(api.View{Sent: true, Accepted: "1.0", Prepared: 0, For: "1.0", By: 7})
	b.Restart()
	b.hear(prepare(3, 0, "1.0"))
	b.hear(three...)
	b.says()
	b.is(api.View{Up: true, Sent: true, Left: 4, Accepted: "1.0", Prepared: 0, For: "1.0", By: 7})
}

func TestANewMemberHasItsSay(t *testing.T) {
	b := begun(t, 5, 4, doubtful)
	b.decide(0, "1+5")
	b.decide(0, "1+52+5")
	b.says()
	b.decide(0, "1+52+53.0")
	b.hear(propose(5, 0, "1+52+53.04.0"), propose(4, 0, "1+52+53.05.0"))
	b.says("propose 4/0 1+52+53.05.0 to all") // at place 4 of 0, 1, 2, 3, 5
	b.hear(propose(5, 0, "1+52+53.05.0"))
	b.says("prepare 4/0 1+52+53.05.0 to all")
	b.hear(prepare(0, 0, "1+52+53.05.0"), prepare(1, 0, "1+52+53.05.0"), prepare(5, 0, "1+52+53.05.0"), prepare(4, 0, "1+52+53.05.0"))
	b.says()
	b.hear(prepare(3, 0, "1+52+53.05.0"))
	b.says("commit 4/0 1+52+53.05.0 to all")
}
