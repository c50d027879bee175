package moot

import (
	"fmt"
	"math/rand"
	"slices"
	"strings"
	"testing"

	"moot/api"
)

// A player makes up steps for a world, always the same ones for a seed.
type player struct {
	*rand.Rand
	c     api.Config
	w     *World
	heard []api.Msg  // what was on its way at some time, to make lies of
	loss  int        // of 100 packets
	spoil api.Kind   // what does not come through, mostly
	queue []api.Step // what comes next, if there is something
}

func newPlayer(t *testing.T, seed int64, c api.Config) *player {
	t.Helper()
	w, e := New(c)
	if w == nil || e != api.OK {
		t.Fatalf("P5: New(%+v): %d", c, e)
	}
	p := &player{Rand: rand.New(rand.NewSource(seed)), c: c, w: w}
	p.loss = []int{0, 5, 20, 60}[p.Intn(4)]
	p.spoil = []api.Kind{0, api.Propose, api.Prepare, api.Commit, api.Commit, api.Commit}[p.Intn(6)]
	return p
}

func (p *player) listen() {
	for _, packet := range p.w.Bag() {
		if m, e := Decode(packet.Text); e == api.OK && len(p.heard) < 2000 {
			p.heard = append(p.heard, m)
		} else if e == api.OK {
			p.heard[p.Intn(2000)] = m
		}
	}
}

// step makes up the next step: mostly one that can be.
func (p *player) step() api.Step {
	if len(p.queue) == 0 && p.Intn(20) == 0 {
		p.plan()
	}
	if len(p.queue) == 0 {
		return p.oneStep()
	}
	s := p.queue[0]
	p.queue = p.queue[1:]
	return s
}

// round is a Round, with the packets that are to be spoilt dropped ahead of it.
func (p *player) round() api.Step {
	gone := 0
	for at, packet := range p.w.Bag() {
		if api.Kind(packet.Text[0]) == p.spoil && p.Intn(10) > 0 {
			p.queue = append(p.queue, api.Step{Act: api.Drop, A: at - gone})
			gone++
		}
	}
	p.queue = append(p.queue, api.Step{Act: api.Round})
	s := p.queue[0]
	p.queue = p.queue[1:]
	return s
}

// plan lets the rounds of some nodes, or of all, go by; then, maybe, all packets come through, one by one.
func (p *player) plan() {
	all, deliver := p.Intn(2) == 0, p.Intn(2) == 0
	for node := range 7 {
		if v, e := p.w.View(node); e == api.OK && v.Up && (all || p.Intn(4) == 0) {
			p.queue = append(p.queue, slices.Repeat([]api.Step{{Act: api.Tick, A: node}}, v.Left)...)
		}
	}
	if deliver {
		p.queue = append(p.queue, slices.Repeat([]api.Step{{Act: api.Deliver}}, 10+p.Intn(40))...)
	}
}

func (p *player) oneStep() api.Step {
	size := len(p.w.Bag())
	switch k := p.Intn(100); {
	case k < 45 && size > 0:
		s := api.Step{Act: api.Deliver, A: p.Intn(size)}
		if p.Intn(100) < p.loss || api.Kind(p.w.Bag()[s.A].Text[0]) == p.spoil && p.Intn(4) > 0 {
			s.Act = api.Drop
		}
		return s
	case k < 48 && size > 0:
		return api.Step{Act: api.Copy, A: p.Intn(size)}
	case k < 58:
		return api.Step{Act: api.Tick, A: p.Intn(7)}
	case k < 68:
		return p.round()
	case k < 71:
		return api.Step{Act: api.Vote, A: p.Intn(7), B: p.Intn(7), C: p.Intn(3)}
	case k < 73:
		return api.Step{Act: api.Crash, A: p.Intn(7)}
	case k < 78:
		return api.Step{Act: api.Restart, A: p.Intn(7)}
	case k < 98 && p.c.Bad != 0:
		return p.inject()
	case k < 99:
		return api.Step{Act: api.Act(p.Intn(12) - 1), A: p.Intn(12) - 2, B: p.Intn(10) - 1, C: p.Intn(5) - 1, Text: "\x06\x00\x01\x00"}
	}
	return p.round()
}

func (p *player) inject() api.Step {
	to := p.Intn(7)
	from := p.badNode(to)
	text, e := Encode(p.lie(from, to))
	for e != api.OK {
		text, e = Encode(p.lie(from, to))
	}
	return api.Step{Act: api.Inject, A: from, B: to, Text: text}
}

// badNode is one that can say something to this node: if its leader is bad, often that.
func (p *player) badNode(to int) int {
	from := p.Intn(7)
	if v, e := p.w.View(to); e == api.OK && p.Intn(2) == 0 {
		from, _ = Leader(p.c.Nodes, v.Chain, v.Round)
	}
	for p.c.Bad>>from&1 == 0 {
		from = p.Intn(7)
	}
	return from
}

// lie makes up a message that a node could take for one of its world's.
func (p *player) lie(from, to int) api.Msg {
	v, e := p.w.View(to)
	if e != api.OK || len(p.heard) > 0 && p.Intn(4) == 0 {
		return p.twist(from)
	}
	m := api.Msg{Kind: api.Kind(1 + p.Intn(6)), From: from, Height: len(v.Chain)/3 + 1, Round: v.Round, Prepared: -1}
	if leader, _ := Leader(p.c.Nodes, v.Chain, v.Round); leader == from && p.Intn(2) == 0 {
		m.Kind = api.Propose
	} else if p.Intn(3) == 0 && m.Round < 9 {
		m.Round += 1 + p.Intn(min(3, 9-m.Round))
	}
	switch m.Kind {
	case api.Ask:
		m.Round = 0
		return m
	case api.Change:
		move := p.move(v, from, m.Round)
		m.Prepared, m.Chain, m.By = move.Prepared, move.Chain, move.By
		return m
	case api.Final:
		m.By = p.some()
	case api.Propose:
		if m.Round > 0 {
			m.Moves = p.moves(v, m)
		}
	}
	m.Chain = p.longer(v)
	for _, move := range m.Moves {
		if move.Chain != "" && p.Intn(2) == 0 {
			m.Chain = move.Chain
		}
	}
	return m
}

// twist takes what somebody said for the bad node's own, or changes a little of it.
func (p *player) twist(from int) api.Msg {
	if len(p.heard) == 0 {
		return api.Msg{Kind: api.Ask, From: from, Height: 1, Prepared: -1}
	}
	m := p.heard[p.Intn(len(p.heard))]
	m.From = from
	switch p.Intn(6) {
	case 0:
		m.Round += p.Intn(3) - 1
	case 1:
		m.By = p.some()
	case 2:
		m.Kind = api.Kind(1 + p.Intn(6))
	case 3:
		if len(m.Moves) > 1 {
			m.Moves = slices.Delete(slices.Clone(m.Moves), 0, 1)
		}
	}
	return m
}

// some is a set that is rather great.
func (p *player) some() int { return p.Intn(128) | p.Intn(128) | p.c.Bad }

// longer is a chain that the node might come to.
func (p *player) longer(v api.View) string {
	switch k := p.Intn(10); {
	case k < 3 && v.For != "":
		return v.For
	case k < 6 && v.Accepted != "":
		return v.Accepted
	}
	return v.Chain + fmt.Sprint(p.Intn(7)) + []string{".0", "+5", "-1", "+6"}[p.Intn(4)]
}

func (p *player) move(v api.View, node, round int) api.Move {
	if round == 0 || p.Intn(3) == 0 {
		return api.Move{Node: node, Prepared: -1}
	}
	by := p.some()
	if v.By != 0 && p.Intn(2) == 0 {
		by = v.By
	}
	return api.Move{Node: node, Prepared: p.Intn(round), Chain: p.longer(v), By: by}
}

// moves are, of good nodes, mostly what they said, and of bad ones anything.
func (p *player) moves(v api.View, proposal api.Msg) []api.Move {
	var moves []api.Move
	for node := range 7 {
		if p.c.Bad>>node&1 == 1 {
			if p.Intn(3) > 0 {
				moves = append(moves, p.move(v, node, proposal.Round))
			}
			continue
		}
		if p.Intn(30) == 0 {
			moves = append(moves, p.move(v, node, proposal.Round))
			continue
		}
		for _, m := range p.heard {
			if m.Kind == api.Change && m.From == node && m.Height == proposal.Height && m.Round == proposal.Round {
				moves = append(moves, api.Move{Node: node, Prepared: m.Prepared, Chain: m.Chain, By: m.By})
				break
			}
		}
	}
	return moves
}

// ledger makes up a ledger: a node's, or one with something of it changed.
func (p *player) ledger() string {
	ledger, e := p.w.Ledger(p.Intn(7))
	if e != api.OK {
		ledger = "\x00"
	}
	switch at := p.Intn(len(ledger)); p.Intn(8) {
	case 0:
		return ledger
	case 1:
		return ledger[:at]
	case 2:
		return ledger[:at] + string([]byte{byte(p.Intn(256))}) + ledger[at+1:]
	case 3:
		return ledger[:at] + string([]byte{ledger[at] ^ 1<<p.Intn(8)}) + ledger[at+1:]
	}
	return p.blockMore(ledger)
}

// blockMore puts a block that somebody spoke of to where it might be in a ledger, as its last one.
func (p *player) blockMore(ledger string) string {
	for range 20 * min(1, len(p.heard)) {
		m := p.heard[p.Intn(len(p.heard))]
		if m.Chain == "" || len(m.Chain) > 18 || 5*m.Height-4 > len(ledger) {
			continue
		}
		seals := p.c.Bad & p.Intn(128)
		for _, other := range p.heard {
			if other.Kind == api.Commit && other.Round == m.Round && other.Chain == m.Chain && p.Intn(50) > 0 {
				seals |= 1 << other.From
			}
		}
		text := append([]byte(ledger[:5*m.Height-4]), m.Chain[3*m.Height-3:]...)
		text[0] = byte(m.Height)
		return string(append(text, byte(m.Round), byte(seals)))
	}
	return ledger
}

func configs(r *rand.Rand, nodes int) api.Config {
	c := api.Config{Nodes: nodes}
	for range r.Intn(4) {
		c.Bad |= 1 << r.Intn(7)
	}
	return c
}

// The world does, step by step, just what the document's words say.
func TestWorldIsAsTheWordsSay(t *testing.T) {
	answers := map[api.Errno]int{}
	r := rand.New(rand.NewSource(1))
	for seed := range int64(400) {
		c := configs(r, 4+int(seed)%4)
		p := newPlayer(t, seed, c)
		m := newModel(c)
		for n := range 400 {
			if differ := difference(p.w, m); differ != "" {
				t.Fatalf("P6: %+v, seed %d, ahead of step %d: %s", c, seed, n, differ)
			}
			p.listen()
			ledger := p.ledger()
			got, e := p.w.Follow(ledger)
			if want, f := m.follow(ledger); got != want || e != f {
				t.Fatalf("P8: %+v, seed %d, ahead of step %d: Follow(%q): %q, %d, want %q, %d", c, seed, n, ledger, got, e, want, f)
			}
			answers[e]++
			s := p.step()
			if got, want := p.w.Do(s), m.do(s); got != want {
				t.Fatalf("P6: %+v, seed %d, step %d: Do(%+v): %d, want %d", c, seed, n, s, got, want)
			}
		}
	}
	for _, e := range []api.Errno{api.OK, api.ErrForm, api.ErrChain, api.ErrSeals} {
		if answers[e] < 1000 {
			t.Errorf("P8: Follow was to answer %d often, and did so %d times", e, answers[e])
		}
	}
}

func difference(w *World, m *model) string {
	for node := -1; node < 8; node++ {
		got, e := w.View(node)
		want, f := m.view(node)
		if got != want || e != f {
			return fmt.Sprintf("View(%d): %+v, %d, want %+v, %d", node, got, e, want, f)
		}
		ledger, e := w.Ledger(node)
		if want, f := m.ledger(node); ledger != want || e != f {
			return fmt.Sprintf("Ledger(%d): %q, %d, want %q, %d", node, ledger, e, want, f)
		}
	}
	if bag := w.Bag(); !slices.Equal(bag, m.bag) {
		return fmt.Sprintf("Bag: %#v, want %#v", bag, m.bag)
	}
	return ""
}

// A watcher looks, step by step, that P10 holds.
type watcher struct {
	t      *testing.T
	what   string
	said   map[string]string
	chains [7]string
}

func (o *watcher) look(w *World) {
	o.t.Helper()
	for node := range o.chains {
		v, e := w.View(node)
		if e != api.OK {
			continue
		}
		if !strings.HasPrefix(v.Chain, o.chains[node]) {
			o.t.Fatalf("P10: %s: node %d had %q, now %q", o.what, node, o.chains[node], v.Chain)
		}
		o.chains[node] = v.Chain
	}
	for _, packet := range w.Bag() {
		m, e := Decode(packet.Text)
		if e != api.OK || m.From != packet.From {
			o.t.Fatalf("P6: %s: a packet that is no message: %q", o.what, packet.Text)
		}
		if _, e := w.View(m.From); e != api.OK || m.Kind != api.Prepare && m.Kind != api.Commit {
			continue
		}
		place := fmt.Sprint(m.Kind, m.From, m.Height, m.Round)
		if before, ok := o.said[place]; ok && before != m.Chain {
			o.t.Fatalf("P10: %s: node %d said %q and %q of one height and round", o.what, m.From, before, m.Chain)
		}
		o.said[place] = m.Chain
	}
}

func TestNobodySaysTwoThings(t *testing.T) {
	r := rand.New(rand.NewSource(2))
	for seed := range int64(300) {
		c := configs(r, 4+int(seed)%4)
		p := newPlayer(t, 1000+seed, c)
		o := &watcher{t: t, what: fmt.Sprintf("%+v, seed %d", c, seed), said: map[string]string{}}
		for range 500 {
			p.listen()
			p.w.Do(p.step())
			o.look(p.w)
		}
	}
}

// A bad leader says one thing, and when the node has crashed and is up again another; so do two bad members with their Prepares.
func TestACrashDoesNotMakeANodeSayAnotherThing(t *testing.T) {
	w := begun(t, api.Config{Nodes: 7, Bad: 1 + 2 + 4})
	o := &watcher{t: t, what: "bad leader", said: map[string]string{}}
	for _, chain := range []string{"1.0", "1+6", "1.0"} {
		for _, m := range []api.Msg{said(api.Propose, 1, chain), said(api.Prepare, 0, chain), said(api.Prepare, 1, chain), said(api.Prepare, 2, chain)} {
			for to := 3; to < 7; to++ {
				doOK(t, w, api.Step{Act: api.Inject, A: m.From, B: to, Text: text(t, m)})
			}
		}
		for to := 3; to < 7; to++ {
			deliverTo(t, w, to, api.Propose)
			deliverTo(t, w, to, api.Prepare)
		}
		for to := 3; to < 7; to++ {
			deliverTo(t, w, to, api.Prepare)
			doOK(t, w, api.Step{Act: api.Crash, A: to})
			doOK(t, w, api.Step{Act: api.Restart, A: to})
		}
		o.look(w)
		for node := 3; node < 7; node++ {
			if v := viewed(t, w, node); v.Accepted != "1.0" || v.For != "1.0" || !v.Sent {
				t.Errorf("P10: node %d: %+v", node, v)
			}
		}
	}
	if len(o.said) != 4*2 {
		t.Errorf("P10: four nodes have said Prepare and Commit: %v", o.said)
	}
}
