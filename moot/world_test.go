package moot

import (
	"math"
	"slices"
	"strings"
	"testing"

	"moot/api"
)

func begun(t *testing.T, c api.Config) *World {
	t.Helper()
	w, e := New(c)
	if w == nil || e != api.OK {
		t.Fatalf("P5: New(%+v): %d", c, e)
	}
	return w
}

func text(t *testing.T, m api.Msg) string {
	t.Helper()
	s, e := Encode(m)
	if e != api.OK {
		t.Fatalf("P4: Encode(%+v): %d", m, e)
	}
	return s
}

func said(kind api.Kind, from int, chain string) api.Msg {
	return api.Msg{Kind: kind, From: from, Height: len(chain) / 3, Chain: chain, Prepared: api.NoRound}
}

func viewed(t *testing.T, w *World, node int) api.View {
	t.Helper()
	v, e := w.View(node)
	if e != api.OK {
		t.Fatalf("P7: View(%d): %d", node, e)
	}
	return v
}

// deliverTo delivers what is on its way to a node of this kind, as far as it is there now.
func deliverTo(t *testing.T, w *World, node int, kind api.Kind) {
	t.Helper()
	bag := w.Bag()
	for at, gone := 0, 0; at < len(bag); at++ {
		if bag[at].To == node && api.Kind(bag[at].Text[0]) == kind {
			doOK(t, w, api.Step{Act: api.Deliver, A: at - gone})
			gone++
		}
	}
}

func dropAll(t *testing.T, w *World) {
	t.Helper()
	for len(w.Bag()) > 0 {
		doOK(t, w, api.Step{Act: api.Drop})
	}
}

// snapshot is all that is to be seen of a world.
func snapshot(w *World) ([]api.Packet, [7]api.View) {
	var views [7]api.View
	for node := range views {
		views[node], _ = w.View(node)
	}
	return w.Bag(), views
}

func TestConfigurations(t *testing.T) {
	numbers := []int{math.MinInt, math.MinInt32, -1, 0, 1, 3, 4, 5, 7, 8, 64, 127, 128, 255, math.MaxInt32, math.MaxInt}
	for _, nodes := range numbers {
		for _, bad := range numbers {
			may := nodes >= 4 && nodes <= 7 && bad >= 0 && bad <= 127
			w, e := New(api.Config{Nodes: nodes, Bad: bad})
			if may != (w != nil) || may != (e == api.OK) || !may && e != api.ErrConfig {
				t.Errorf("P5: New(%d, %d): %v, %d", nodes, bad, w != nil, e)
			}
		}
	}
}

func TestHowAWorldBegins(t *testing.T) {
	proposal := text(t, said(api.Propose, 1, "1.0"))
	for nodes := 4; nodes <= 7; nodes++ {
		for bad := range 128 {
			w := begun(t, api.Config{Nodes: nodes, Bad: bad})
			for node := -1; node < 8; node++ {
				good := node >= 0 && node < 7 && bad>>node&1 == 0
				v, e := w.View(node)
				if good && (v != api.View{Up: true, Left: 4, Prepared: -1} || e != api.OK) || !good && (v != api.View{} || e != api.ErrNode) {
					t.Errorf("P5, P7: %d nodes, bad %d: View(%d): %+v, %d", nodes, bad, node, v, e)
				}
			}
			var want []api.Packet
			for to := range 7 {
				if bad>>1&1 == 0 {
					want = append(want, api.Packet{From: 1, To: to, Text: proposal})
				}
			}
			if got := w.Bag(); !slices.Equal(got, want) {
				t.Errorf("P5: %d nodes, bad %d: Bag: %v", nodes, bad, got)
			}
		}
	}
}

func TestNoWorld(t *testing.T) {
	var w *World
	for act := range api.Act(11) {
		if e := w.Do(api.Step{Act: act}); e != api.ErrNode {
			t.Errorf("P1: Do(%d): %d", act, e)
		}
	}
	for node := -1; node < 8; node++ {
		if v, e := w.View(node); e != api.ErrNode || v != (api.View{}) {
			t.Errorf("P1: View(%d): %+v, %d", node, v, e)
		}
		if s, e := w.Ledger(node); e != api.ErrNode || s != "" {
			t.Errorf("P1: Ledger(%d): %q, %d", node, s, e)
		}
	}
	if s, e := w.Follow("\x00"); e != api.ErrNode || s != "" {
		t.Errorf("P1: Follow: %q, %d", s, e)
	}
	if len(w.Bag()) != 0 {
		t.Errorf("P1: Bag: %v", w.Bag())
	}
}

func TestAWorldThatNobodyMade(t *testing.T) {
	w := new(World)
	for act := range api.Act(11) {
		for a := -1; a < 8; a++ {
			w.Do(api.Step{Act: act, A: a, Text: "\x06\x00\x01\x00"})
			w.View(a)
		}
	}
	if len(w.Bag()) != 0 {
		t.Errorf("P1: Bag: %v", w.Bag())
	}
}

// stepsWorld has packets, a bad node 3 and a node 2 that is down.
func stepsWorld(t *testing.T) *World {
	w := begun(t, api.Config{Nodes: 4, Bad: 8})
	doOK(t, w, api.Step{Act: api.Crash, A: 2})
	return w
}

func TestWhichStepsCanBe(t *testing.T) {
	numbers := []int{math.MinInt, -1, 0, 1, 2, 3, 4, 6, 7, 8, 1 << 32, math.MaxInt}
	texts := []string{"", "\x06\x03\x01\x00", "\x06\x03\x01\x00\x00", "\x06\x03\x07\x00", "\x06\x00\x01\x00", "\x06\x02\x01\x00", "x"}
	for act := api.Act(-1); act < 12; act++ {
		for _, a := range numbers {
			for _, b := range numbers {
				for _, c := range []int{math.MinInt, -1, 0, 1, 2, 3, math.MaxInt} {
					for k, text := range texts {
						s := api.Step{Act: act, A: a, B: b, C: c, Text: text}
						lookAtStep(t, s, canBe(s, k == 1))
					}
				}
			}
		}
	}
}

// canBe tells it for stepsWorld.
func canBe(s api.Step, textIsOf3 bool) bool {
	node := s.A >= 0 && s.A < 7
	up := node && s.A != 2 && s.A != 3
	switch s.Act {
	case api.Deliver, api.Drop, api.Copy:
		return s.A >= 0 && s.A < 7 // packets
	case api.Tick, api.Crash:
		return up
	case api.Vote:
		return up && s.B >= 0 && s.B < 7 && s.C >= 0 && s.C < 3
	case api.Restart:
		return s.A == 2
	case api.Inject:
		return s.A == 3 && s.B >= 0 && s.B < 7 && textIsOf3
	}
	return s.Act == api.Round
}

func lookAtStep(t *testing.T, s api.Step, can bool) {
	t.Helper()
	w := stepsWorld(t)
	bag, views := snapshot(w)
	e := w.Do(s)
	if can != (e == api.OK) || !can && e != api.ErrStep {
		t.Errorf("P6: Do(%+v): %d", s, e)
	}
	if can {
		return
	}
	if bagNow, viewsNow := snapshot(w); !slices.Equal(bag, bagNow) || views != viewsNow {
		t.Errorf("P1: Do(%+v) cannot be, and changes the world", s)
	}
}

func TestDeliverDropCopy(t *testing.T) {
	for at := range 7 {
		w := begun(t, api.Config{Nodes: 4, Bad: 8})
		doOK(t, w, api.Step{Act: api.Crash, A: 2})
		bag := w.Bag()
		rest := slices.Delete(slices.Clone(bag), at, at+1)
		doOK(t, w, api.Step{Act: api.Copy, A: at})
		if got := w.Bag(); !slices.Equal(got, append(slices.Clone(bag), bag[at])) {
			t.Errorf("P6: Copy %d: %v", at, got)
		}
		doOK(t, w, api.Step{Act: api.Drop, A: at})
		if got := w.Bag(); !slices.Equal(got, append(slices.Clone(rest), bag[at])) {
			t.Errorf("P6: Drop %d: %v", at, got)
		}
		doOK(t, w, api.Step{Act: api.Deliver, A: 6})
		want := slices.Clone(rest)
		for to := range 7 {
			if at < 2 {
				want = append(want, api.Packet{From: at, To: to, Text: text(t, said(api.Prepare, at, "1.0"))})
			}
		}
		if got := w.Bag(); !slices.Equal(got, want) {
			t.Errorf("P6: Deliver to %d: %v, want %v", at, got, want)
		}
	}
}

func TestVoteCountsFromNowOn(t *testing.T) {
	w := begun(t, api.Config{Nodes: 4})
	for _, s := range []api.Step{{A: 1, B: 5, C: 1}, {A: 2, B: 5, C: 1}, {A: 2, B: 4, C: 2}, {A: 3, B: 6, C: 1}, {A: 3, B: 6, C: 0}} {
		s.Act = api.Vote
		doOK(t, w, s)
	}
	doOK(t, w, api.Step{Act: api.Crash, A: 2})
	doOK(t, w, api.Step{Act: api.Restart, A: 2})
	for range 10 {
		doOK(t, w, api.Step{Act: api.Round})
	}
	if v := viewed(t, w, 5); v.Chain != "1.02-43.0" {
		t.Errorf("P6: %+v", v)
	}
}

func TestWhoIsDownHearsNothing(t *testing.T) {
	w := begun(t, api.Config{Nodes: 4})
	doOK(t, w, api.Step{Act: api.Tick, A: 0})
	doOK(t, w, api.Step{Act: api.Crash, A: 0})
	down := api.View{Prepared: -1}
	if v := viewed(t, w, 0); v != down {
		t.Errorf("P7: %+v", v)
	}
	doOK(t, w, api.Step{Act: api.Deliver})
	doOK(t, w, api.Step{Act: api.Round})
	if v := viewed(t, w, 0); v != down {
		t.Errorf("P7: %+v", v)
	}
	for _, p := range w.Bag() {
		if p.From == 0 {
			t.Errorf("P6: a node that is down sends %+v", p)
		}
	}
	doOK(t, w, api.Step{Act: api.Restart, A: 0})
	if v := viewed(t, w, 0); v != (api.View{Up: true, Left: 4, Prepared: -1}) {
		t.Errorf("P7: %+v", v)
	}
}

func TestInjectStandsInTheBag(t *testing.T) {
	w := begun(t, api.Config{Nodes: 4, Bad: 127})
	var want []api.Packet
	for from := range 7 {
		for to := range 7 {
			s := text(t, api.Msg{Kind: api.Ask, From: from, Height: 1, Prepared: -1})
			doOK(t, w, api.Step{Act: api.Inject, A: from, B: to, Text: s})
			want = append(want, api.Packet{From: from, To: to, Text: s})
		}
	}
	if got := w.Bag(); !slices.Equal(got, want) {
		t.Errorf("P6: %v", got)
	}
	doOK(t, w, api.Step{Act: api.Round})
	if got := w.Bag(); len(got) != 0 {
		t.Errorf("P6: bad nodes do nothing by themselves: %v", got)
	}
}

// prepared brings nodes 0, 1 and 2 of four (3 is bad) to where all three have said Prepare, and it is on its way.
func prepared(t *testing.T) *World {
	t.Helper()
	w := begun(t, api.Config{Nodes: 4, Bad: 8})
	for node := range 3 {
		deliverTo(t, w, node, api.Propose)
	}
	return w
}

// lieTo lets node 3 tell node 5 that the first block is decided, by 0, 2 and itself.
func lieTo(t *testing.T, w *World) {
	t.Helper()
	final := said(api.Final, 3, "1.0")
	final.By = 1 + 4 + 8
	doOK(t, w, api.Step{Act: api.Inject, A: 3, B: 5, Text: text(t, final)})
}

func TestAClaimMustBeTrue(t *testing.T) {
	w := prepared(t)
	deliverTo(t, w, 0, api.Prepare)
	lieTo(t, w)
	deliverTo(t, w, 5, api.Final)
	if v := viewed(t, w, 5); v.Chain != "" {
		t.Fatalf("P6: node 2 has not said Commit: %+v", v)
	}
	deliverTo(t, w, 2, api.Prepare)
	lieTo(t, w)
	deliverTo(t, w, 5, api.Final)
	if v := viewed(t, w, 5); v.Chain != "1.0" {
		t.Errorf("P6: nodes 0 and 2 have said Commit: %+v", v)
	}
}

func TestInARoundAClaimMustHaveBeenTrueWhenItBegan(t *testing.T) {
	w := prepared(t)
	deliverTo(t, w, 0, api.Prepare)
	deliverTo(t, w, 5, api.Commit)
	lieTo(t, w)
	doOK(t, w, api.Step{Act: api.Round})
	if v := viewed(t, w, 2); !v.Sent {
		t.Fatalf("P6: %+v", v)
	}
	if v := viewed(t, w, 5); v.Chain != "" {
		t.Errorf("P6: node 2 had not said Commit when the Round began: %+v", v)
	}
	dropAll(t, w)
	lieTo(t, w)
	doOK(t, w, api.Step{Act: api.Round})
	if v := viewed(t, w, 5); v.Chain != "1.0" {
		t.Errorf("P6: node 2 had said Commit when the Round began: %+v", v)
	}
}

func fill(t *testing.T, w *World) {
	t.Helper()
	for range 500 {
		doOK(t, w, api.Step{Act: api.Copy})
	}
	if got := len(w.Bag()); got != 500 {
		t.Fatalf("P6: %d packets", got)
	}
}

func TestAFullBagLosesWhatIsSent(t *testing.T) {
	w := begun(t, api.Config{Nodes: 4, Bad: 8})
	fill(t, w)
	before := w.Bag()
	doOK(t, w, api.Step{Act: api.Copy, A: 3})
	doOK(t, w, api.Step{Act: api.Inject, A: 3, B: 0, Text: "\x06\x03\x01\x00"})
	for range 4 {
		doOK(t, w, api.Step{Act: api.Tick, A: 0})
	}
	if got := w.Bag(); !slices.Equal(got, before) {
		t.Errorf("P6: a full bag has changed")
	}
	if v := viewed(t, w, 0); v.Round != 1 {
		t.Errorf("P6: %+v", v)
	}
	for range 3 {
		doOK(t, w, api.Step{Act: api.Drop, A: 6})
	}
	doOK(t, w, api.Step{Act: api.Deliver, A: 1})
	got := w.Bag()
	if len(got) != 500 || got[495].Text != before[0].Text {
		t.Fatalf("P6: %d packets", len(got))
	}
	for to, p := range got[496:] {
		if p != (api.Packet{From: 1, To: to, Text: text(t, said(api.Prepare, 1, "1.0"))}) {
			t.Errorf("P6: as far as there is room: %+v", p)
		}
	}
}

func TestWhatGotLostWasSaidAllTheSame(t *testing.T) {
	w := prepared(t)
	lieTo(t, w)
	lie := len(w.Bag()) - 1
	fill(t, w)
	for _, node := range []int{0, 2} {
		for from := range 3 {
			doOK(t, w, api.Step{Act: api.Inject, A: 3, B: 0, Text: "\x06\x03\x01\x00"}) // so that there is no room
			at := slices.Index(w.Bag(), api.Packet{From: from, To: node, Text: text(t, said(api.Prepare, from, "1.0"))})
			doOK(t, w, api.Step{Act: api.Deliver, A: at})
			if at < lie {
				lie--
			}
		}
		if !viewed(t, w, node).Sent {
			t.Fatalf("P6: %+v", viewed(t, w, node))
		}
	}
	doOK(t, w, api.Step{Act: api.Deliver, A: lie})
	if v := viewed(t, w, 5); v.Chain != "1.0" {
		t.Errorf("P6: what nodes 0 and 2 said counts, though it is lost: %+v", v)
	}
}

func TestOrderBehindARound(t *testing.T) {
	w := begun(t, api.Config{Nodes: 4})
	for node := range 7 {
		for range 3 {
			doOK(t, w, api.Step{Act: api.Tick, A: node})
		}
	}
	doOK(t, w, api.Step{Act: api.Round})
	var want []api.Packet
	for from := range 7 {
		messages := []api.Msg{said(api.Prepare, from, "1.0"), {Kind: api.Change, From: from, Height: 1, Round: 1, Prepared: -1}}
		if from > 3 {
			messages = []api.Msg{{Kind: api.Ask, From: from, Height: 1, Prepared: -1}}
		}
		for _, m := range messages {
			for to := range 7 {
				want = append(want, api.Packet{From: from, To: to, Text: text(t, m)})
			}
		}
	}
	if got := w.Bag(); !slices.Equal(got, want) {
		t.Errorf("P6: %v, want %v", got, want)
	}
}

// Each packet is answered by one, and ticks bring more: what has no room is that of the last nodes.
func TestARoundCanSendMoreThanTheBagHolds(t *testing.T) {
	w := begun(t, api.Config{Nodes: 4, Bad: 64})
	for range 3 {
		doOK(t, w, api.Step{Act: api.Round})
	}
	dropAll(t, w)
	for viewed(t, w, 0).Left > 1 {
		doOK(t, w, api.Step{Act: api.Tick, A: 0})
	}
	for at := range 500 {
		doOK(t, w, api.Step{Act: api.Inject, A: 6, B: at % 5, Text: "\x06\x06\x01\x00"})
	}
	doOK(t, w, api.Step{Act: api.Round})
	got := w.Bag()
	if len(got) != 500 {
		t.Fatalf("P6: %d packets", len(got))
	}
	for at, p := range got {
		from := 0
		if at >= 107 {
			from = (at - 7) / 100
		}
		kind := api.Final
		if at >= 100 && at < 107 {
			kind = api.Change
		}
		if p.From != from || api.Kind(p.Text[0]) != kind {
			t.Fatalf("P6: packet %d: %+v", at, p)
		}
	}
}

func TestTheBagIsNewMemory(t *testing.T) {
	w := begun(t, api.Config{Nodes: 4})
	for range 4 {
		bag := w.Bag()
		overwrite(bag, api.Packet{From: 9, To: 9, Text: "?"})
		if got := w.Bag(); len(got) == 0 || got[0].Text == "?" {
			t.Fatalf("P2: %v", got)
		}
		bag = append(bag[:0], api.Packet{Text: "!"})
		doOK(t, w, api.Step{Act: api.Round})
		if got := w.Bag(); bag[0].Text != "!" || slices.ContainsFunc(got, func(p api.Packet) bool { return p.Text == "!" || p.Text == "?" }) {
			t.Fatalf("P2: %v", got)
		}
	}
}

func TestWorldsAreApart(t *testing.T) {
	alone, beside, other := begun(t, api.Config{Nodes: 5}), begun(t, api.Config{Nodes: 5}), begun(t, api.Config{Nodes: 5, Bad: 1})
	for n := range 12 {
		doOK(t, alone, api.Step{Act: api.Round})
		doOK(t, other, api.Step{Act: api.Vote, A: 1 + n%6, B: 6, C: 1})
		doOK(t, other, api.Step{Act: api.Tick, A: 1 + n%6})
		doOK(t, beside, api.Step{Act: api.Round})
		doOK(t, other, api.Step{Act: api.Round})
		bag, views := snapshot(alone)
		if bagBeside, viewsBeside := snapshot(beside); !slices.Equal(bag, bagBeside) || views != viewsBeside {
			t.Fatalf("P2: behind %d Rounds: %v and %v", n+1, views, viewsBeside)
		}
	}
}

func TestTheExampleOfARound(t *testing.T) {
	w := begun(t, api.Config{Nodes: 4})
	doOK(t, w, api.Step{Act: api.Round})
	var who []string
	for _, p := range w.Bag() {
		m, e := Decode(p.Text)
		if e != api.OK || m.Kind != api.Prepare || m.Chain != "1.0" {
			t.Errorf("P6: %+v", m)
		}
		who = append(who, string(rune('0'+m.From)))
	}
	if got := strings.Join(who, ""); got != "0000000111111122222223333333" {
		t.Errorf("P6: Prepares from %s", got)
	}
}
