package moot

import (
	"math"
	"math/bits"
	"slices"
	"strings"
	"testing"

	"moot/api"
)

func rounds(t *testing.T, w *World, count int) {
	t.Helper()
	for range count {
		doOK(t, w, api.Step{Act: api.Round})
	}
}

func mustFollow(t *testing.T, w *World, ledger, want string, e api.Errno) {
	t.Helper()
	if got, f := w.Follow(ledger); got != want || f != e {
		t.Errorf("P8: Follow(%q): %q, %d, want %q, %d", ledger, got, f, want, e)
	}
}

func mustHave(t *testing.T, w *World, node int, want string) {
	t.Helper()
	if got, e := w.Ledger(node); got != want || e != api.OK {
		t.Errorf("P8: Ledger(%d): %q, %d, want %q", node, got, e, want)
	}
}

func TestLedgersGrowWithTheChains(t *testing.T) {
	w := begun(t, api.Config{Nodes: 4, Bad: 8})
	doOK(t, w, api.Step{Act: api.Vote, A: 2, B: 6, C: 2})
	for _, want := range []string{"\x00", "\x00", "\x00", "\x011.0\x00\x07", "\x011.0\x00\x07", "\x011.0\x00\x07", "\x021.0\x00\x072-6\x00\x07"} {
		for _, node := range []int{0, 1, 2, 4, 5, 6} {
			mustHave(t, w, node, want)
		}
		rounds(t, w, 1)
	}
	doOK(t, w, api.Step{Act: api.Crash, A: 2})
	mustHave(t, w, 2, "\x021.0\x00\x072-6\x00\x07")
	rounds(t, w, 1)
	doOK(t, w, api.Step{Act: api.Restart, A: 2})
	mustHave(t, w, 2, "\x021.0\x00\x072-6\x00\x07")
}

func TestALedgerOfAllBlocks(t *testing.T) {
	for nodes := 4; nodes <= 7; nodes++ {
		w := begun(t, api.Config{Nodes: nodes})
		rounds(t, w, 20)
		for node := range 7 {
			ledger, e := w.Ledger(node)
			if e != api.OK || len(ledger) != 31 || ledger[0] != 6 {
				t.Fatalf("P8: %d members, Ledger(%d): %q, %d", nodes, node, ledger, e)
			}
			mustFollow(t, w, ledger, viewed(t, w, node).Chain, api.OK)
			mustFollow(t, w, "\x07"+ledger[1:]+"1.0\x00\x7f", "", api.ErrForm)
		}
	}
}

func TestWhoHasNoLedger(t *testing.T) {
	for bad := range 128 {
		w := begun(t, api.Config{Nodes: 4, Bad: bad})
		for node := range 7 {
			if bad>>node&1 == 0 {
				mustHave(t, w, node, "\x00")
			} else if s, e := w.Ledger(node); s != "" || e != api.ErrNode {
				t.Errorf("P8: Ledger of bad node %d: %q, %d", node, s, e)
			}
		}
		for _, node := range []int{math.MinInt, math.MinInt32, -1, 7, 8, 64, 1 << 32, math.MaxInt} {
			if s, e := w.Ledger(node); s != "" || e != api.ErrNode {
				t.Errorf("P8: Ledger(%d): %q, %d", node, s, e)
			}
		}
	}
}

// Commits are on their way, and count as soon as they are sent: though they come to nobody.
func TestFollowBelievesWhatWasSaid(t *testing.T) {
	w := prepared(t) // node 3 is bad
	mustFollow(t, w, "\x00", "", api.OK)
	mustFollow(t, w, "\x011.0\x00\x0d", "", api.ErrSeals)
	deliverTo(t, w, 0, api.Prepare)
	mustFollow(t, w, "\x011.0\x00\x0d", "", api.ErrSeals)
	deliverTo(t, w, 2, api.Prepare)
	dropAll(t, w)
	mustFollow(t, w, "\x011.0\x00\x0d", "1.0", api.OK)
	for _, ledger := range []string{
		"\x011.0\x00\x0f", // node 1 has not
		"\x011.0\x00\x0e",
		"\x011.0\x00\x05", // no quorum
		"\x011.0\x00\x09",
		"\x011.0\x00\x00",
		"\x011.0\x00\x1d", // node 4 is no member
		"\x011.0\x00\x45",
		"\x011.0\x01\x0d", // another round
		"\x011.0\x09\x0d",
		"\x012.0\x00\x0d", // another block
		"\x011+1\x00\x0d",
		"\x021.0\x00\x0d1.0\x00\x0d", // it was of height 1
		"\x021.0\x00\x0d2.0\x00\x0d",
		"\x021.0\x00\x0f4.0\x00\x0d", // the block ahead of it comes first
	} {
		mustFollow(t, w, ledger, "", api.ErrSeals)
	}
	for _, ledger := range []string{"\x014.0\x00\x0d", "\x011.1\x00\x0d", "\x01\x00\x00\x00\x00\x0d", "\x021.0\x00\x0d4.0\x00\x00", "\x021.0\x00\x0dx.0\x00\x0d"} {
		mustFollow(t, w, ledger, "", api.ErrChain)
	}
	for _, ledger := range []string{"", "\x01", "\x00\x00", "\x011.0\x00", "\x011.0\x00\x0d\x00", "\x021.0\x00\x0d", "\x011.0\x0a\x0d", "\x011.0\xff\x0d", "\x011.0\x00\x8d", "\x024.0\x00\x0d1.0\x0a\x0d", "\xff", "\x07" + strings.Repeat("1.0\x00\x0d", 7), strings.Repeat("1.0", 1<<16)} {
		mustFollow(t, w, ledger, "", api.ErrForm)
	}
}

// Where all are bad everything is believed, but members and quorums are looked at all the same: those of this world.
func TestFollowByTheFirstMembers(t *testing.T) {
	for nodes := 4; nodes <= 7; nodes++ {
		w := begun(t, api.Config{Nodes: nodes, Bad: 127})
		for maker := range 7 {
			for seals := range 128 {
				ledger := "\x01" + string(rune('0'+maker)) + ".0\x05" + string(rune(seals))
				switch {
				case maker >= nodes:
					mustFollow(t, w, ledger, "", api.ErrChain)
				case seals >= 1<<nodes || bits.OnesCount(uint(seals)) < quorumOf(nodes):
					mustFollow(t, w, ledger, "", api.ErrSeals)
				default:
					mustFollow(t, w, ledger, ledger[1:4], api.OK)
				}
			}
		}
	}
}

func TestOtherWorldsAreNotBelieved(t *testing.T) {
	here, other, bad := begun(t, api.Config{Nodes: 4}), begun(t, api.Config{Nodes: 4}), begun(t, api.Config{Nodes: 4, Bad: 15})
	rounds(t, here, 4)
	ledger, _ := here.Ledger(5)
	mustFollow(t, here, ledger, "1.0", api.OK)
	mustFollow(t, other, ledger, "", api.ErrSeals)
	mustFollow(t, bad, ledger, "1.0", api.OK)
	rounds(t, other, 3)
	mustFollow(t, other, ledger, "1.0", api.OK)
}

func TestLedgerAndFollowChangeNothing(t *testing.T) {
	asked, left := begun(t, api.Config{Nodes: 5, Bad: 4}), begun(t, api.Config{Nodes: 5, Bad: 4})
	for n := range 30 {
		for node := -1; node < 8; node++ {
			ledger, _ := asked.Ledger(node)
			asked.Follow(ledger)
			asked.Follow(ledger + "x")
			asked.Follow("\x011.0\x00\x1f")
			asked.Follow("\x016.0\x00\x1f")
		}
		bag, views := snapshot(asked)
		if bagLeft, viewsLeft := snapshot(left); !slices.Equal(bag, bagLeft) || views != viewsLeft {
			t.Fatalf("P1: behind %d Rounds: %v and %v", n, views, viewsLeft)
		}
		rounds(t, asked, 1)
		rounds(t, left, 1)
	}
}

func TestAWorldThatNobodyMadeHasNoLedger(t *testing.T) {
	w := new(World)
	for node := range 7 {
		if s, e := w.Ledger(node); s != "" || e != api.ErrNode {
			t.Errorf("P1: Ledger(%d): %q, %d", node, s, e)
		}
	}
	mustFollow(t, w, "", "", api.ErrForm)
	mustFollow(t, w, "\x00", "", api.OK)
	mustFollow(t, w, "\x011.0\x00\x7f", "", api.ErrChain)
	mustFollow(t, w, "\x011.0\x00\x00", "", api.ErrChain)
}
