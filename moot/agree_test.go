package moot

import (
	"fmt"
	"maps"
	"math/bits"
	"math/rand"
	"slices"
	"strings"
	"testing"

	"moot/api"
)

// A judge looks, step by step, that P9 holds. It writes ledgers of its own, too, with all seals that can be had.
type judge struct {
	t       *testing.T
	what    string
	c       api.Config
	longest string // of the chains of good nodes, at any time
	commits map[word]int
	taken   map[string]string // by chain: a ledger that Follow took
}

// A word is what a Commit says.
type word struct {
	round int
	chain string
}

func newJudge(t *testing.T, what string, c api.Config) *judge {
	return &judge{t: t, what: fmt.Sprintf("%s, %+v", what, c), c: c, commits: map[word]int{}, taken: map[string]string{"": "\x00"}}
}

// isFair tells whether no more than f members are bad, at each height that a good node's chain has or is about to have.
func (j *judge) isFair(w *World) bool {
	for node := range 7 {
		v, e := w.View(node)
		for height := 0; e == api.OK && height <= min(len(v.Chain)/3, 5); height++ {
			members, _ := Members(j.c.Nodes, v.Chain[:3*height])
			if bits.OnesCount(uint(asSet(members)&j.c.Bad)) > faultsOf(len(members)) {
				return false
			}
		}
	}
	return true
}

func asSet(nodes []int) int {
	set := 0
	for _, node := range nodes {
		set |= 1 << node
	}
	return set
}

// look looks at a world that is fair.
func (j *judge) look(w *World) {
	j.t.Helper()
	for node := range 7 {
		v, e := w.View(node)
		if e != api.OK {
			continue
		}
		j.mustAgree(j.longest, v.Chain)
		if len(v.Chain) > len(j.longest) {
			j.longest = v.Chain
		}
		ledger, _ := w.Ledger(node)
		if chain, e := w.Follow(ledger); chain != v.Chain || e != api.OK {
			j.t.Fatalf("P9: %s: node %d has %q, of its ledger %q Follow says %q, %d", j.what, node, v.Chain, ledger, chain, e)
		}
	}
	if j.gather(w) {
		j.forge(w)
	}
	for chain := range j.taken {
		j.mustAgree(j.longest, chain)
	}
}

func (j *judge) mustAgree(a, b string) {
	j.t.Helper()
	if !strings.HasPrefix(a, b) && !strings.HasPrefix(b, a) {
		j.t.Fatalf("P9: %s: chains %q and %q", j.what, a, b)
	}
}

// gather takes the Commits of good nodes out of what is on its way, and tells whether there are new ones.
func (j *judge) gather(w *World) bool {
	isNew := false
	for _, packet := range w.Bag() {
		m, _ := Decode(packet.Text)
		if m.Kind != api.Commit || j.c.Bad>>m.From&1 == 1 {
			continue
		}
		said := word{m.Round, m.Chain}
		isNew = isNew || j.commits[said]>>m.From&1 == 0
		j.commits[said] |= 1 << m.From
	}
	return isNew
}

// forge writes a ledger for each chain that somebody committed to, shorter ones first, and has Follow look at it. Bad nodes seal everything.
func (j *judge) forge(w *World) {
	j.t.Helper()
	var words []word
	for said := range j.commits {
		words = append(words, said)
	}
	slices.SortFunc(words, func(a, b word) int { return len(a.chain) - len(b.chain) })
	for _, said := range words {
		before, ok := j.taken[said.chain[:len(said.chain)-3]]
		if ok {
			j.tryOn(w, before, said, j.commits[said]|j.c.Bad)
		}
	}
}

// tryOn has Follow look at a ledger and one block more, the last one of a chain.
func (j *judge) tryOn(w *World, before string, said word, seals int) api.Errno {
	j.t.Helper()
	at := len(said.chain) - 3
	members, _ := Members(j.c.Nodes, said.chain[:at])
	ledger := string([]byte{before[0] + 1}) + before[1:] + said.chain[at:] + string([]byte{byte(said.round), byte(seals & asSet(members))})
	chain, e := w.Follow(ledger)
	if e == api.OK && chain != said.chain || e != api.OK && chain != "" {
		j.t.Fatalf("P8: %s: Follow(%q): %q, %d", j.what, ledger, chain, e)
	}
	if e == api.OK {
		j.taken[chain] = ledger
	}
	return e
}

// doubt has Follow look at blocks that no good node committed to: sealed by the bad ones alone, and by all.
func (j *judge) doubt(w *World) {
	j.t.Helper()
	for chain, before := range maps.Clone(j.taken) {
		for _, block := range []string{"0.0", "1.0", "2+6", "3-0"} {
			for round := range 10 {
				said := word{round, chain + block}
				if _, e := Members(j.c.Nodes, said.chain); e != api.OK || j.commits[said] != 0 {
					continue
				}
				if e, f := j.tryOn(w, before, said, j.c.Bad), j.tryOn(w, before, said, 127); e != api.ErrSeals || f != api.ErrSeals {
					j.t.Fatalf("P9: %s: %q in round %d sealed by bad nodes, by all: %d, %d", j.what, said.chain, round, e, f)
				}
			}
		}
	}
}

// A cheat plays the bad nodes of a world, so that good ones come apart if they can: Commits come to one node only, and to the others the bad nodes propose and stand by something else.
type cheat struct {
	*player
	lucky int
	side  int // the nodes to which they say one thing; to the others they say another
}

func (p *cheat) turn() {
	p.side = p.Intn(128)
	for to := range 7 {
		v, e := p.w.View(to)
		if e != api.OK || len(v.Chain) == 18 {
			continue
		}
		for from := range 7 {
			if p.c.Bad>>from&1 == 1 {
				p.cheat(v, from, to)
			}
		}
		if p.Intn(10) == 0 {
			p.w.Do(api.Step{Act: api.Crash, A: to})
			p.w.Do(api.Step{Act: api.Restart, A: to})
		}
	}
	p.lose()
}

// cheat has a bad node say what may bring a node to decide: as its leader it proposes, and it is for all that is proposed.
func (p *cheat) cheat(v api.View, from, to int) {
	leader, _ := Leader(p.c.Nodes, v.Chain, v.Round)
	chain := v.Chain + fmt.Sprint(leader) + []string{".0", "+6"}[p.side>>to&1]
	if p.c.Bad>>leader&1 == 0 && v.Accepted != "" {
		chain = v.Accepted
	}
	m := api.Msg{From: from, Height: len(chain) / 3, Round: v.Round, Chain: chain, Prepared: -1}
	if from == leader {
		proposal := m
		proposal.Kind, proposal.Moves = api.Propose, p.excuse(v, m)
		p.say(proposal, to)
	}
	for _, kind := range []api.Kind{api.Prepare, api.Commit} {
		m.Kind = kind
		p.say(m, to)
	}
	m.Kind, m.Round, m.Chain = api.Change, v.Round+1, ""
	if p.Intn(3) == 0 {
		m.Prepared, m.Chain, m.By = v.Round, v.Chain+fmt.Sprint(from)+".0", 127
	}
	p.say(m, to)
}

// excuse makes up Moves for a proposal: what was said, or too few, or what good nodes did not say, or what nobody was prepared for.
func (p *cheat) excuse(v api.View, m api.Msg) []api.Move {
	if m.Round == 0 {
		return nil
	}
	members, _ := Members(p.c.Nodes, v.Chain)
	made := api.Move{Node: m.From, Prepared: m.Round - 1, Chain: m.Chain, By: 127}
	switch p.Intn(5) {
	case 0:
		return []api.Move{{Node: m.From, Prepared: -1}}
	case 1:
		return unprepared(members)
	case 2:
		return unprepared([]int{0, 1, 2, 3, 4, 5, 6})
	case 3:
		moves := slices.DeleteFunc(p.moves(v, m), func(move api.Move) bool { return move.Node == m.From })
		return sorted(append(moves, made))
	}
	return p.moves(v, m)
}

func unprepared(nodes []int) []api.Move {
	var moves []api.Move
	for _, node := range nodes {
		moves = append(moves, api.Move{Node: node, Prepared: -1})
	}
	return moves
}

func sorted(moves []api.Move) []api.Move {
	slices.SortFunc(moves, func(a, b api.Move) int { return a.Node - b.Node })
	return moves
}

func (p *cheat) say(m api.Msg, to int) {
	if text, e := Encode(m); e == api.OK {
		p.w.Do(api.Step{Act: api.Inject, A: m.From, B: to, Text: text})
	}
}

// lose drops the Commits and Finals that are on their way, but for those to the lucky one, and a few.
func (p *cheat) lose() {
	bag := p.w.Bag()
	for at := len(bag) - 1; at >= 0; at-- {
		kind := api.Kind(bag[at].Text[0])
		if (kind == api.Commit && p.c.Bad>>bag[at].From&1 == 0 || kind == api.Final) && bag[at].To != p.lucky && p.Intn(50) > 0 {
			p.w.Do(api.Step{Act: api.Drop, A: at})
		}
	}
}

// badSets are those of which no more than f of the first members are in.
func badSets(nodes int) []int {
	var sets []int
	for bad := range 128 {
		if bits.OnesCount(uint(bad&(1<<nodes-1))) <= faultsOf(nodes) {
			sets = append(sets, bad)
		}
	}
	return sets
}

func TestChainsAgree(t *testing.T) {
	r := rand.New(rand.NewSource(3))
	for seed := range int64(300) {
		nodes := 4 + int(seed)%4
		sets := badSets(nodes)
		c := api.Config{Nodes: nodes, Bad: sets[r.Intn(len(sets))]}
		p := newPlayer(t, 5000+seed, c)
		j := newJudge(t, fmt.Sprint("any steps, seed ", seed), c)
		for range 400 {
			p.listen()
			p.w.Do(p.step())
			if !j.isFair(p.w) {
				break
			}
			j.look(p.w)
		}
		if j.isFair(p.w) {
			j.doubt(p.w)
		}
	}
}

func TestChainsAgreeThoughBadNodesHaveTwoFaces(t *testing.T) {
	for nodes := 4; nodes <= 7; nodes++ {
		for at, bad := range badSets(nodes) {
			for seed := range int64(8) {
				c := api.Config{Nodes: nodes, Bad: bad}
				p := &cheat{player: newPlayer(t, 100*int64(at)+seed, c), lucky: int(seed) % nodes}
				j := newJudge(t, fmt.Sprint("two faces, seed ", seed), c)
				for range 60 {
					p.listen()
					p.turn()
					doOK(t, p.w, api.Step{Act: api.Round})
					if !j.isFair(p.w) {
						break
					}
					j.look(p.w)
				}
			}
		}
	}
}
