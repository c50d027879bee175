package moot

import (
	"math"
	"math/rand"
	"reflect"
	"runtime"
	"slices"
	"strings"
	"testing"
	"time"
	"unsafe"

	"moot/api"
)

// share tells whether a text lies where another one does.
func share(a, b string) bool {
	from, to := uintptr(unsafe.Pointer(unsafe.StringData(a))), uintptr(unsafe.Pointer(unsafe.StringData(b)))
	return a != "" && b != "" && from < to+uintptr(len(b)) && to < from+uintptr(len(a))
}

func TestTextsThatAreHandedInAreNotKept(t *testing.T) {
	w := begun(t, api.Config{Nodes: 4, Bad: 127})
	ledger := strings.Clone("\x011.0\x00\x0f")
	if chain, e := w.Follow(ledger); e != api.OK || share(chain, ledger) {
		t.Errorf("P2: Follow: %q, %d lies in the ledger", chain, e)
	}
	handed := text(t, said(api.Propose, 1, "1.0"))
	doOK(t, w, api.Step{Act: api.Inject, A: 1, B: 0, Text: handed})
	if got := w.Bag()[0].Text; got != handed || share(got, handed) {
		t.Errorf("P2: Inject keeps the text %q", got)
	}
	m, _ := Decode(handed)
	if m.Chain != "1.0" || share(m.Chain, handed) {
		t.Errorf("P2: Decode: %q lies in the text", m.Chain)
	}
	handed = text(t, severalMoves())
	m, _ = Decode(handed)
	for _, move := range m.Moves {
		if share(move.Chain, handed) || share(m.Chain, handed) {
			t.Errorf("P2: Decode: %+v lies in the text", m)
		}
	}
}

// wild are numbers at which a call may stumble.
var wild = []int{math.MinInt, math.MinInt32, -2, -1, 0, 1, 2, 3, 4, 6, 7, 9, 10, 64, 127, 128, 255, 256, math.MaxInt32, math.MaxInt}

func wildMessage(r *rand.Rand) api.Msg {
	number := func() int {
		if r.Intn(3) == 0 {
			return wild[r.Intn(len(wild))]
		}
		return r.Intn(4)
	}
	m := api.Msg{Kind: api.Kind(number()), From: number(), Height: number(), Round: number(), Prepared: api.NoRound}
	if r.Intn(3) == 0 {
		m.Prepared, m.By = number()-1, number()
	}
	chain := func() string {
		if r.Intn(4) > 0 && m.Height > 0 && m.Height < 9 {
			return strings.Repeat("\xff1.", m.Height)
		}
		return strings.Repeat("1.0\x00", r.Intn(9))
	}
	m.Chain = chain()
	for range r.Intn(10) * r.Intn(2) {
		m.Moves = append(m.Moves, api.Move{Node: number(), Prepared: number() - 1, Chain: chain(), By: number()})
	}
	return m
}

func TestNoCallPanics(t *testing.T) {
	r := rand.New(rand.NewSource(4))
	w := begun(t, api.Config{Nodes: 5, Bad: 2 + 64})
	for range 20000 {
		m := wildMessage(r)
		s, e := Encode(m)
		if e != api.OK && s != "" || e != api.OK && e != api.ErrForm {
			t.Fatalf("P1: Encode(%+v): %q, %d", m, s, e)
		}
		if back, f := Decode(s); e == api.OK && (f != api.OK || !reflect.DeepEqual(back, m)) {
			t.Fatalf("P4: Decode(%q): %+v, %d, want %+v", s, back, f, m)
		}
		step := api.Step{Act: api.Act(wild[r.Intn(len(wild))]), A: wild[r.Intn(len(wild))], B: wild[r.Intn(len(wild))], C: wild[r.Intn(len(wild))], Text: s}
		if r.Intn(4) == 0 {
			step.Act = api.Act(r.Intn(11))
		}
		if e := w.Do(step); e != api.OK && e != api.ErrStep {
			t.Fatalf("P1: Do(%+v): %d", step, e)
		}
		noise := make([]byte, r.Intn(40))
		r.Read(noise)
		for _, s := range []string{s, string(noise), m.Chain} {
			if m, e := Decode(s); e != api.OK && !reflect.DeepEqual(m, api.Msg{}) {
				t.Fatalf("P1: Decode(%q): %+v, %d", s, m, e)
			}
			if chain, e := w.Follow(s); e != api.OK && chain != "" {
				t.Fatalf("P1: Follow(%q): %q, %d", s, chain, e)
			}
			if list, e := Members(wild[r.Intn(len(wild))], s); e != api.OK && list != nil {
				t.Fatalf("P1: Members of %q: %v, %d", s, list, e)
			}
		}
	}
	long := api.Msg{Kind: api.Propose, Height: 1, Round: 1, Chain: "1.0", Prepared: -1, Moves: make([]api.Move, 1<<20)}
	if s, e := Encode(long); s != "" || e != api.ErrForm {
		t.Errorf("P1: Encode of a million Moves: %d bytes, %d", len(s), e)
	}
}

// Goroutines that have said that they are done need a moment to be gone.
func TestBehindARoundNoGoroutineIsLeft(t *testing.T) {
	before := runtime.NumGoroutine()
	for range 50 {
		w := begun(t, api.Config{Nodes: 7, Bad: 4})
		doOK(t, w, api.Step{Act: api.Crash, A: 3})
		rounds(t, w, 20)
	}
	for range 500 {
		if runtime.NumGoroutine() <= before {
			return
		}
		time.Sleep(10 * time.Millisecond)
	}
	t.Errorf("Ways: %d goroutines, before %d", runtime.NumGoroutine(), before)
}

// What a Round does hangs on no schedule: two worlds that go the same way are the same, on one processor and on many.
func TestRoundsHangOnNoSchedule(t *testing.T) {
	defer runtime.GOMAXPROCS(runtime.GOMAXPROCS(0))
	for seed := range int64(20) {
		c := configs(rand.New(rand.NewSource(seed)), 4+int(seed)%4)
		p := newPlayer(t, 9000+seed, c)
		other := begun(t, c)
		for n := range 200 {
			p.listen()
			s := p.step()
			runtime.GOMAXPROCS(1 + n%2*7)
			e := p.w.Do(s)
			runtime.GOMAXPROCS(1 + (n+1)%2*7)
			if f := other.Do(s); e != f {
				t.Fatalf("P2: Do(%+v): %d and %d", s, e, f)
			}
			bag, views := snapshot(p.w)
			if bagOther, viewsOther := snapshot(other); !slices.Equal(bag, bagOther) || views != viewsOther {
				t.Fatalf("P2: seed %d, behind step %d: %v and %v", seed, n, views, viewsOther)
			}
		}
	}
}
