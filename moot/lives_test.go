package moot

import (
	"fmt"
	"math/rand"
	"testing"

	"moot/api"
)

func doOK(t *testing.T, w *World, s api.Step) {
	t.Helper()
	if e := w.Do(s); e != api.OK {
		t.Fatalf("P6: Do(%+v): %d", s, e)
	}
}

func mustBeThrough(t *testing.T, w *World, what string) {
	t.Helper()
	for node := range 7 {
		if v, e := w.View(node); e != api.OK || len(v.Chain) != 18 {
			t.Fatalf("P11: %s: node %d: %+v, %d", what, node, v, e)
		}
	}
}

func TestTwentyRoundsAreEnough(t *testing.T) {
	for seed := range 200 {
		r := rand.New(rand.NewSource(int64(seed)))
		w, _ := New(api.Config{Nodes: 4 + seed%4})
		for range 20 {
			for range r.Intn(8) {
				doOK(t, w, api.Step{Act: api.Vote, A: r.Intn(7), B: r.Intn(7), C: r.Intn(3)})
			}
			doOK(t, w, api.Step{Act: api.Round})
		}
		mustBeThrough(t, w, fmt.Sprint("only Rounds and Votes, seed ", seed))
	}
}

// disturb does steps of all kinds, no more than eight of them Ticks and Rounds, and lets all nodes be up at last.
func disturb(r *rand.Rand, w *World) {
	loss := 1 + r.Intn(90)
	ticks := r.Intn(9)
	for range r.Intn(600) {
		size, s := len(w.Bag()), api.Step{A: r.Intn(7), B: r.Intn(7), C: r.Intn(3)}
		switch k := r.Intn(100); {
		case k < 70 && size > 0:
			s.A, s.Act = r.Intn(size), api.Deliver
			if r.Intn(100) < loss {
				s.Act = api.Drop
			}
		case k < 75 && size > 0:
			s.A, s.Act = r.Intn(size), api.Copy
		case k < 80:
			s.Act = api.Vote
		case k < 85:
			s.Act = api.Crash
		case k < 90:
			s.Act = api.Restart
		default:
			s.Act = api.Tick
			if r.Intn(3) == 0 {
				s.Act = api.Round
			}
			if ticks == 0 {
				continue
			}
			ticks--
		}
		w.Do(s)
	}
	for node := range 7 {
		w.Do(api.Step{Act: api.Restart, A: node})
	}
}

func TestSixHundredRoundsAreEnough(t *testing.T) {
	for seed := range 300 {
		r := rand.New(rand.NewSource(int64(seed)))
		w, _ := New(api.Config{Nodes: 4 + seed%4})
		disturb(r, w)
		for range 600 {
			doOK(t, w, api.Step{Act: api.Round})
		}
		mustBeThrough(t, w, fmt.Sprint("disturbed at first, seed ", seed))
	}
}

// Nothing comes to some nodes while the others go as far as they can without a tick.
func TestWhoMissedAllCatchesUp(t *testing.T) {
	for nodes := 4; nodes <= 7; nodes++ {
		for missing := range 128 {
			w := begun(t, api.Config{Nodes: nodes})
			for bag := w.Bag(); len(bag) > 0; bag = w.Bag() {
				act := api.Deliver
				if missing>>bag[0].To&1 == 1 {
					act = api.Drop
				}
				doOK(t, w, api.Step{Act: act})
			}
			for range 600 {
				doOK(t, w, api.Step{Act: api.Round})
			}
			mustBeThrough(t, w, fmt.Sprintf("%d members, nothing to %b", nodes, missing))
		}
	}
}
