package node

import (
	"fmt"
	"slices"
	"strings"
	"testing"

	"moot/api"
	"moot/chains"
	"moot/wire"
)

// A bench is a node under test.
type bench struct {
	*testing.T
	*Node
}

func gullible(api.Msg) bool { return true }

func doubtful(api.Msg) bool { return false }

// begun is a node of a world with so many members at first, and what it said when it began is passed over.
func begun(t *testing.T, self, first int, believes func(api.Msg) bool) bench {
	b := bench{t, New(self, first, believes)}
	b.TakeOutbox()
	return b
}

// tell writes a message as height/round, chain, and what else it has.
func tell(m api.Msg) string {
	name := []string{"", "propose", "prepare", "commit", "change", "final", "ask"}[m.Kind]
	text := fmt.Sprintf("%s %d/%d %s", name, m.Height, m.Round, m.Chain)
	if m.Prepared != api.NoRound || m.By != 0 {
		text += fmt.Sprintf(" of %d by %d", m.Prepared, m.By)
	}
	for _, move := range m.Moves {
		text += fmt.Sprintf(" {%d: %d %s %d}", move.Node, move.Prepared, move.Chain, move.By)
	}
	return text
}

// says looks at what the node has sent since it was looked at last; "to all" is seven packets.
func (b bench) says(want ...string) {
	b.Helper()
	var got []string
	packets := b.TakeOutbox()
	for len(packets) > 0 {
		p := packets[0]
		m, e := wire.Decode(p.Text)
		if e != api.OK || m.From != b.self || p.From != b.self {
			b.Fatalf("P6: sends %+v", p)
		}
		if toAll(packets) {
			got = append(got, tell(m)+" to all")
			packets = packets[7:]
		} else {
			got = append(got, fmt.Sprintf("%s to %d", tell(m), p.To))
			packets = packets[1:]
		}
	}
	if !slices.Equal(got, want) {
		b.Errorf("P6: it says %q, want %q", got, want)
	}
}

func toAll(packets []api.Packet) bool {
	if len(packets) < 7 {
		return false
	}
	for i, p := range packets[:7] {
		if p.To != i || p.Text != packets[0].Text {
			return false
		}
	}
	return true
}

func (b bench) is(want api.View) {
	b.Helper()
	if got := b.View(); got != want {
		b.Errorf("P7: %+v, want %+v", got, want)
	}
}

func (b bench) hear(messages ...api.Msg) {
	for _, m := range messages {
		b.Hear(m)
	}
}

func (b bench) tick(times int) {
	for range times {
		b.Tick()
	}
}

// said is a message of the height that its chain has.
func said(kind api.Kind, from, round int, chain string) api.Msg {
	return api.Msg{Kind: kind, From: from, Height: len(chain) / 3, Round: round, Chain: chain, Prepared: api.NoRound}
}

func propose(from, round int, chain string, moves ...api.Move) api.Msg {
	m := said(api.Propose, from, round, chain)
	m.Moves = moves
	return m
}

func prepare(from, round int, chain string) api.Msg { return said(api.Prepare, from, round, chain) }

func commit(from, round int, chain string) api.Msg { return said(api.Commit, from, round, chain) }

func final(from, round int, chain string, by int) api.Msg {
	m := said(api.Final, from, round, chain)
	m.By = by
	return m
}

// changed is a Change of height 1 of who was not prepared.
func changed(from, round int) api.Msg {
	return api.Msg{Kind: api.Change, From: from, Height: 1, Round: round, Prepared: api.NoRound}
}

// carried is a Change of who was prepared.
func carried(from, round, prepared int, chain string, by int) api.Msg {
	m := said(api.Change, from, round, chain)
	m.Prepared, m.By = prepared, by
	return m
}

func ask(from, height int) api.Msg {
	return api.Msg{Kind: api.Ask, From: from, Height: height, Prepared: api.NoRound}
}

// decide ends a height: three of four members say the same.
func (b bench) decide(round int, chain string) {
	b.hear(commit(0, round, chain), commit(1, round, chain), commit(2, round, chain))
}

func TestWhoLeadsBeginsWithAProposal(t *testing.T) {
	for first := 4; first <= 7; first++ {
		for self := range 7 {
			b := bench{t, New(self, first, doubtful)}
			if self == 1 {
				b.says("propose 1/0 1.0 to all")
			} else {
				b.says()
			}
			b.is(api.View{Up: true, Left: 4, Prepared: -1})
		}
	}
}

func TestNewBlockHasTheVote(t *testing.T) {
	for how, want := range []string{".0", "+5", "-5"} {
		b := begun(t, 2, 4, doubtful)
		b.SetVote(chains.Vote{How: how, About: 5})
		b.says()
		b.decide(0, "1.0")
		b.says("propose 2/0 1.02" + want + " to all")
	}
}

func TestProposalIsAcceptedOnce(t *testing.T) {
	b := begun(t, 0, 4, doubtful)
	b.hear(propose(1, 0, "3-2"))
	b.says("prepare 1/0 3-2 to all")
	b.is(api.View{Up: true, Left: 4, Accepted: "3-2", Prepared: -1})
	b.hear(propose(1, 0, "1.0"), propose(1, 0, "3-2"))
	b.says()
	b.Crash()
	b.Restart()
	b.hear(propose(1, 0, "1.0"), propose(1, 0, "3-2"))
	b.says()
	b.is(api.View{Up: true, Left: 4, Accepted: "3-2", Prepared: -1})
}

func TestProposalsThatAreNotAccepted(t *testing.T) {
	for _, m := range []api.Msg{
		propose(2, 0, "2.0"),                            // no leader
		propose(5, 0, "1.0"),                            // no member
		propose(2, 1, "2.0", none(0), none(1), none(2)), // a later round
		propose(1, 4, "1.0", none(0), none(1), none(2)), // leads its own round, but also a later one
		propose(1, 0, "5.0"),                            // made by no member
		propose(1, 0, "1x0"),
		propose(1, 0, "1.1"),
		propose(1, 0, "\xff\xff\xff"),
	} {
		b := begun(t, 0, 4, gullible)
		b.hear(m)
		b.says()
		b.is(api.View{Up: true, Left: 4, Prepared: -1})
	}
	b := begun(t, 5, 4, gullible)
	b.hear(propose(1, 0, "1.0"))
	b.says()
	b.is(api.View{Up: true, Left: 4, Prepared: -1})
}

func TestAQuorumOfPreparesIsAnsweredByCommit(t *testing.T) {
	for first, quorum := range map[int]int{4: 3, 5: 4, 6: 4, 7: 5} {
		b := begun(t, 0, first, doubtful)
		b.hear(propose(1, 0, "1.0"))
		b.says("prepare 1/0 1.0 to all")
		for from := range quorum - 1 {
			b.hear(prepare(from, 0, "1.0"), prepare(from, 0, "1.0")) // twice, but one voice
		}
		b.hear(prepare(3, 0, "2.0"), prepare(3, 1, "1.0"))
		b.says()
		b.hear(prepare(quorum-1, 0, "1.0"))
		b.says("commit 1/0 1.0 to all")
		by := 1<<quorum - 1
		b.is(api.View{Up: true, Sent: true, Left: 4, Accepted: "1.0", Prepared: 0, For: "1.0", By: by})
		if first > quorum {
			b.hear(prepare(first-1, 0, "1.0"))
		}
		b.says()
		b.is(api.View{Up: true, Sent: true, Left: 4, Accepted: "1.0", Prepared: 0, For: "1.0", By: by})
	}
}

func TestPreparesMayComeAheadOfTheProposal(t *testing.T) {
	b := begun(t, 0, 4, doubtful)
	b.hear(prepare(3, 0, "1.0"), prepare(1, 0, "1.0"), prepare(2, 0, "1.0"))
	b.says()
	b.hear(propose(1, 0, "1.0"))
	b.says("prepare 1/0 1.0 to all", "commit 1/0 1.0 to all")
	b.is(api.View{Up: true, Sent: true, Left: 4, Accepted: "1.0", Prepared: 0, For: "1.0", By: 14})
}

func TestPreparesOfOthersDoNotCount(t *testing.T) {
	b := begun(t, 0, 4, doubtful)
	b.hear(propose(1, 0, "1.0"), prepare(0, 0, "1.0"), prepare(1, 0, "1.0"))
	b.says("prepare 1/0 1.0 to all")
	b.hear(prepare(4, 0, "1.0"), prepare(6, 0, "1.0"))
	b.says()
}

func TestPreparesOfLaterRoundsAreKeptAndOfEarlierOnesNot(t *testing.T) {
	b := begun(t, 0, 4, gullible)
	b.hear(prepare(1, 1, "2.0"), prepare(2, 1, "2.0"), prepare(3, 1, "2.0"))
	b.tick(4)
	b.says("change 1/1  to all")
	b.hear(prepare(1, 0, "1.0"), prepare(2, 0, "1.0"), prepare(3, 0, "1.0"))
	if len(b.prepares) != 1 {
		t.Errorf("P6: heard %v", b.prepares)
	}
	b.hear(propose(2, 1, "2.0", none(0), none(1), none(2)))
	b.says("prepare 1/1 2.0 to all", "commit 1/1 2.0 to all")
	b.is(api.View{Up: true, Sent: true, Round: 1, Left: 8, Accepted: "2.0", Prepared: 1, For: "2.0", By: 14})
}

func TestAQuorumOfCommitsEndsTheHeight(t *testing.T) {
	for _, self := range []int{0, 3, 6} {
		for _, round := range []int{0, 2, 9} {
			b := begun(t, self, 4, doubtful)
			b.tick(3)
			b.hear(propose(1, 0, "1.0"))
			b.TakeOutbox()
			b.hear(commit(1, round, "1.0"), commit(1, round, "1.0"), commit(5, round, "1.0"), commit(2, round, "2.0"), commit(2, (round+1)%10, "1.0"), commit(3, round, "1.0"))
			if b.View().Chain != "" {
				t.Fatalf("P6: two are a quorum of four")
			}
			b.hear(commit(2, round, "1.0"))
			b.says()
			b.is(api.View{Up: true, Chain: "1.0", Left: 4, Prepared: -1})
			b.hear(ask(4, 1))
			b.says(fmt.Sprintf("final 1/%d 1.0 of -1 by 14 to 4", round))
		}
	}
}

func TestAnEndedHeightIsForgotten(t *testing.T) {
	b := begun(t, 0, 4, gullible)
	b.hear(propose(1, 0, "1.0"), prepare(0, 0, "1.0"), prepare(1, 0, "1.0"), prepare(2, 0, "1.0"))
	b.tick(4)
	b.hear(propose(2, 1, "1.0", none(0), none(1), none(2)), prepare(3, 1, "1.0"), changed(3, 2), commit(3, 0, "2.0"))
	b.TakeOutbox()
	b.is(api.View{Up: true, Round: 1, Left: 8, Accepted: "1.0", Prepared: 0, For: "1.0", By: 7})
	b.decide(0, "1.0")
	if len(b.prepares)+len(b.commits)+len(b.moves) != 0 {
		t.Errorf("P6: %v", b.heard)
	}
	b.is(api.View{Up: true, Chain: "1.0", Left: 4, Prepared: -1})
	b.tick(4)
	b.says("change 2/1  to all")
}

func TestFinal(t *testing.T) {
	for _, c := range []struct {
		by   int
		want string // what it keeps, and tells who asks
	}{
		{7, "by 7"}, {14, "by 14"}, {15, "by 15"}, {127, "by 15"}, {64 + 7, "by 7"},
		{0, ""}, {3, ""}, {96 + 3, ""}, {112, ""},
	} {
		b := begun(t, 5, 4, gullible)
		b.hear(final(6, 3, "1.0", c.by))
		if c.want == "" {
			b.is(api.View{Up: true, Left: 4, Prepared: -1})
			continue
		}
		b.is(api.View{Up: true, Chain: "1.0", Left: 4, Prepared: -1})
		b.hear(ask(6, 1))
		b.says("final 1/3 1.0 of -1 " + c.want + " to 6")
	}
	b := begun(t, 5, 4, gullible)
	b.hear(final(0, 0, "5.0", 15), final(0, 0, "1.1", 15))
	b.is(api.View{Up: true, Left: 4, Prepared: -1})
}

func TestFinalMustBeBelievedOfEach(t *testing.T) {
	var asked []string
	believes := func(m api.Msg) bool {
		asked = append(asked, fmt.Sprint(m.From, " ", tell(m)))
		return m.From != 2
	}
	b := begun(t, 5, 4, believes)
	b.hear(final(0, 3, "1.0", 7))
	b.is(api.View{Up: true, Left: 4, Prepared: -1})
	asked = nil
	b.hear(final(0, 3, "1.0", 64+11))
	b.is(api.View{Up: true, Chain: "1.0", Left: 4, Prepared: -1})
	if want := []string{"0 commit 1/3 1.0", "1 commit 1/3 1.0", "3 commit 1/3 1.0"}; !slices.Equal(asked, want) {
		t.Errorf("P6: believed of %q, want %q", asked, want)
	}
}

func TestOtherHeights(t *testing.T) {
	b := begun(t, 3, 4, doubtful)
	b.decide(2, "1.0")
	b.decide(0, "1.02+5")
	b.TakeOutbox()
	for _, m := range []api.Msg{propose(6, 0, "9.9"), prepare(6, 0, "???"), commit(6, 9, "1.0"), changed(6, 1), ask(6, 1)} {
		b.hear(m)
		b.says("final 1/2 1.0 of -1 by 7 to 6")
	}
	b.hear(ask(0, 2))
	b.says("final 2/0 1.02+5 of -1 by 7 to 0")
	b.hear(final(6, 0, "1.0", 127), ask(1, 3), ask(1, 4), ask(1, 6))
	b.says()
	for _, m := range []api.Msg{propose(6, 0, "1.02+51.01.0"), prepare(6, 0, "1.02+51.01.0"), commit(6, 9, "1.02+51.01.0"), final(6, 0, "1.02+51.01.0", 15), {Kind: api.Change, From: 6, Height: 7, Round: 1, Prepared: -1}} {
		b.hear(m)
		b.says("ask 3/0  to 6")
	}
	b.is(api.View{Up: true, Chain: "1.02+5", Left: 4, Prepared: -1})
}

func TestBehindTheLastBlockItOnlyAnswers(t *testing.T) {
	b := begun(t, 1, 4, gullible)
	chain := strings.Repeat("1.0", 6)
	for height := 1; height < 6; height++ {
		b.decide(height, chain[:3*height])
	}
	b.tick(4)
	b.hear(propose(3, 1, chain, none(0), none(1), none(2)), prepare(0, 1, chain), prepare(1, 1, chain), prepare(2, 1, chain))
	b.is(api.View{Up: true, Sent: true, Chain: chain[:15], Round: 1, Left: 8, Accepted: chain, Prepared: 1, For: chain, By: 7})
	b.decide(6, chain)
	b.TakeOutbox()
	through := api.View{Up: true, Chain: chain, Prepared: -1}
	b.is(through)
	seven := chain + "1.0"
	b.hear(propose(3, 0, seven), prepare(0, 0, seven), prepare(1, 0, seven), prepare(2, 0, seven), final(0, 0, seven, 15))
	b.decide(0, seven)
	for from := range 4 {
		b.hear(api.Msg{Kind: api.Change, From: from, Height: 7, Round: 1, Prepared: -1})
	}
	b.tick(100)
	b.says()
	b.is(through)
	b.hear(ask(2, 6), prepare(2, 0, chain))
	b.says("final 6/6 "+chain+" of -1 by 7 to 2", "final 6/6 "+chain+" of -1 by 7 to 2")
	b.Crash()
	b.Restart()
	b.is(through)
}

func TestLedger(t *testing.T) {
	b := begun(t, 5, 4, gullible)
	ledger := func(want string) {
		t.Helper()
		if got := b.Ledger(); got != want {
			t.Errorf("P8: %q, want %q", got, want)
		}
	}
	ledger("\x00")
	b.decide(9, "1.0")
	ledger("\x011.0\x09\x07")
	b.hear(final(6, 3, "1.02+5", 127), commit(3, 9, "1.0"))
	ledger("\x021.0\x09\x072+5\x03\x0f")
	b.Crash()
	ledger("\x021.0\x09\x072+5\x03\x0f")
	b.Restart()
	chain := "1.02+51.01.01.0"
	for height := 3; height <= 5; height++ {
		b.decide(0, chain[:3*height])
	}
	ledger("\x051.0\x09\x072+5\x03\x0f" + strings.Repeat("1.0\x00\x07", 3))
	b.decide(1, chain+"0-1")
	ledger("\x061.0\x09\x072+5\x03\x0f" + strings.Repeat("1.0\x00\x07", 3) + "0-1\x01\x07")
}
