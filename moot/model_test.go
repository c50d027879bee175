package moot

import (
	"fmt"
	"math/bits"
	"slices"
	"strings"

	"moot/api"
)

// A model is a world that does what the document says word for word: one thing after the other, and with everything looked up where it is needed.
type model struct {
	first, bad int
	nodes      [7]*modelNode
	bag        []api.Packet
	sent       []api.Msg // by good nodes, all there ever was
	counts     int       // so many of sent can be claimed; -1: all
}

type modelNode struct {
	w              *model
	me             int
	up             bool
	chain          string
	sealRounds     []int
	sealSets       []int
	round          int
	accepted       string
	proposed, sent bool
	prepared       int
	preparedFor    string
	preparedBy     int
	vote           string
	left           int
	prepares       map[string]int
	commits        map[string]int
	moves          map[string]api.Move
	out            []api.Packet
}

func newModel(c api.Config) *model {
	w := &model{first: c.Nodes, bad: c.Bad, counts: -1}
	for i := range 7 {
		if c.Bad>>i&1 == 0 {
			n := &modelNode{w: w, me: i, up: true, prepared: -1, vote: ".0"}
			w.nodes[i] = n
			n.forget()
			n.begin(0)
			w.collect(n)
		}
	}
	return w
}

func (w *model) put(p api.Packet) {
	if len(w.bag) < 500 {
		w.bag = append(w.bag, p)
	}
}

func (w *model) collect(n *modelNode) {
	for _, p := range n.out {
		w.put(p)
	}
	n.out = nil
}

func (w *model) goodUp(i int) bool {
	return i >= 0 && i < 7 && w.nodes[i] != nil && w.nodes[i].up
}

func (w *model) do(s api.Step) api.Errno {
	switch s.Act {
	case api.Deliver, api.Drop, api.Copy:
		return w.doPacket(s)
	case api.Tick, api.Vote, api.Crash:
		return w.doNode(s)
	case api.Restart:
		if s.A < 0 || s.A > 6 || w.nodes[s.A] == nil || w.nodes[s.A].up {
			return api.ErrStep
		}
		n := w.nodes[s.A]
		n.up = true
		if n.height() <= 6 {
			n.left = 4 << n.round
		}
	case api.Round:
		w.doRound()
	case api.Inject:
		m, e := Decode(s.Text)
		if s.A < 0 || s.A > 6 || w.nodes[s.A] != nil || s.B < 0 || s.B > 6 || e != api.OK || m.From != s.A {
			return api.ErrStep
		}
		w.put(api.Packet{From: s.A, To: s.B, Text: s.Text})
	default:
		return api.ErrStep
	}
	return api.OK
}

func (w *model) doPacket(s api.Step) api.Errno {
	if s.A < 0 || s.A >= len(w.bag) {
		return api.ErrStep
	}
	p := w.bag[s.A]
	if s.Act == api.Copy {
		w.put(p)
		return api.OK
	}
	w.bag = append(slices.Clone(w.bag[:s.A]), w.bag[s.A+1:]...)
	if s.Act == api.Deliver && w.goodUp(p.To) {
		w.nodes[p.To].comes(p)
		w.collect(w.nodes[p.To])
	}
	return api.OK
}

func (w *model) doNode(s api.Step) api.Errno {
	if !w.goodUp(s.A) {
		return api.ErrStep
	}
	n := w.nodes[s.A]
	switch s.Act {
	case api.Tick:
		n.tick()
		w.collect(n)
	case api.Crash:
		n.up = false
		n.left = 0
		n.forget()
	case api.Vote:
		if s.B < 0 || s.B > 6 || s.C < 0 || s.C > 2 {
			return api.ErrStep
		}
		n.vote = []string{".0", fmt.Sprint("+", s.B), fmt.Sprint("-", s.B)}[s.C]
	}
	return api.OK
}

func (w *model) doRound() {
	bag := w.bag
	w.bag = nil
	w.counts = len(w.sent)
	for i, n := range w.nodes {
		if !w.goodUp(i) {
			continue
		}
		for _, p := range bag {
			if p.To == i {
				n.comes(p)
			}
		}
		n.tick()
		w.collect(n)
	}
	w.counts = -1
}

// believed: has m.From sent m?
func (w *model) believed(m api.Msg) bool {
	if w.bad>>m.From&1 == 1 {
		return true
	}
	sent := w.sent
	if w.counts >= 0 {
		sent = sent[:w.counts]
	}
	for _, s := range sent {
		if s.Kind == m.Kind && s.From == m.From && s.Height == m.Height && s.Round == m.Round && s.Chain == m.Chain && s.Prepared == m.Prepared && s.By == m.By {
			return true
		}
	}
	return false
}

func (n *modelNode) forget() {
	n.prepares, n.commits, n.moves = map[string]int{}, map[string]int{}, map[string]api.Move{}
}

func (n *modelNode) height() int { return len(n.chain)/3 + 1 }

func (n *modelNode) members() []int {
	list, e := Members(n.w.first, n.chain)
	if e != api.OK {
		panic("a chain that may not be")
	}
	return list
}

func (n *modelNode) isMember() bool { return slices.Contains(n.members(), n.me) }

func (n *modelNode) leader() int {
	l, _ := Leader(n.w.first, n.chain, n.round)
	return l
}

func (n *modelNode) quorum() int { return quorumOf(len(n.members())) }

// quorumOf is 2 n divided by 3, rounded up.
func quorumOf(n int) int {
	return map[int]int{4: 3, 5: 4, 6: 4, 7: 5}[n]
}

// faultsOf is n - 1 divided by 3, rounded down.
func faultsOf(n int) int {
	return map[int]int{4: 1, 5: 1, 6: 1, 7: 2}[n]
}

func (n *modelNode) oneMore(chain string) bool {
	if len(chain) != len(n.chain)+3 || !strings.HasPrefix(chain, n.chain) {
		return false
	}
	_, e := Members(n.w.first, chain)
	return e == api.OK
}

func (n *modelNode) send(m api.Msg, to int) {
	m.From = n.me
	n.w.sent = append(n.w.sent, m)
	text, e := Encode(m)
	if e != api.OK {
		panic(fmt.Sprintf("sends what may not be: %+v", m))
	}
	n.out = append(n.out, api.Packet{From: n.me, To: to, Text: text})
}

func (n *modelNode) all(m api.Msg) {
	for i := range 7 {
		n.send(m, i)
	}
}

func (n *modelNode) begin(r int) {
	n.round, n.left = r, 4<<r
	n.accepted, n.proposed, n.sent = "", false, false
	if !n.isMember() {
		return
	}
	if r == 0 && n.leader() == n.me {
		n.propose(n.newBlock(), nil)
	}
	if r > 0 {
		n.all(api.Msg{Kind: api.Change, Height: n.height(), Round: r, Prepared: n.prepared, Chain: n.preparedFor, By: n.preparedBy})
		n.looksPropose()
	}
}

func (n *modelNode) newBlock() string {
	return n.chain + fmt.Sprint(n.me) + n.vote
}

func (n *modelNode) propose(chain string, moves []api.Move) {
	n.proposed = true
	n.all(api.Msg{Kind: api.Propose, Height: n.height(), Round: n.round, Chain: chain, Prepared: -1, Moves: moves})
}

func (n *modelNode) looksPropose() {
	if !n.isMember() || n.leader() != n.me || n.round == 0 || n.proposed {
		return
	}
	var moves []api.Move
	for _, i := range n.members() {
		if move, ok := n.moves[fmt.Sprint(n.round, i)]; ok {
			moves = append(moves, move)
		}
	}
	if len(moves) < n.quorum() {
		return
	}
	if best := greatestPrepared(moves); best.Prepared != -1 {
		n.propose(best.Chain, moves)
	} else {
		n.propose(n.newBlock(), moves)
	}
}

func greatestPrepared(moves []api.Move) api.Move {
	sorted := slices.Clone(moves)
	slices.SortFunc(sorted, func(a, b api.Move) int {
		if a.Prepared != b.Prepared {
			return b.Prepared - a.Prepared
		}
		return a.Node - b.Node
	})
	return sorted[0]
}

func (n *modelNode) looksPrepared() {
	by := n.prepares[fmt.Sprint(n.round, n.accepted)]
	if n.accepted != "" && !n.sent && bits.OnesCount(uint(by)) >= n.quorum() {
		n.prepared, n.preparedFor, n.preparedBy = n.round, n.accepted, by
		n.sent = true
		n.all(api.Msg{Kind: api.Commit, Height: n.height(), Round: n.round, Chain: n.accepted, Prepared: -1})
	}
}

func (n *modelNode) end(chain string, round, seals int) {
	n.chain = chain
	n.sealRounds, n.sealSets = append(n.sealRounds, round), append(n.sealSets, seals)
	n.prepared, n.preparedFor, n.preparedBy = -1, "", 0
	n.forget()
	n.round, n.accepted, n.proposed, n.sent, n.left = 0, "", false, false, 0
	if n.height() <= 6 {
		n.begin(0)
	}
}

func (n *modelNode) comes(p api.Packet) {
	m, e := Decode(p.Text)
	if e != api.OK || m.From != p.From {
		return
	}
	h := n.height()
	if m.Height < h {
		if m.Kind != api.Final {
			n.send(api.Msg{Kind: api.Final, Height: m.Height, Round: n.sealRounds[m.Height-1], Chain: n.chain[:3*m.Height], Prepared: -1, By: n.sealSets[m.Height-1]}, m.From)
		}
		return
	}
	if m.Height > h {
		if m.Kind != api.Ask {
			n.send(api.Msg{Kind: api.Ask, Height: h, Prepared: -1}, m.From)
		}
		return
	}
	if h > 6 || m.Kind == api.Ask {
		return
	}
	if !(m.Kind == api.Change && m.Prepared == -1) && !n.oneMore(m.Chain) {
		return
	}
	if m.Kind != api.Final && !slices.Contains(n.members(), m.From) {
		return
	}
	n.does(m)
}

func (n *modelNode) does(m api.Msg) {
	key := fmt.Sprint(m.Round, m.Chain)
	switch m.Kind {
	case api.Final:
		if by, ok := n.shown(api.Commit, m.Round, m.Chain, m.By); ok {
			n.end(m.Chain, m.Round, by)
		}
	case api.Propose:
		if m.From == n.leader() && m.Round == n.round && n.accepted == "" && n.isMember() && (m.Round == 0 || n.justify(m)) {
			n.accepted = m.Chain
			n.all(api.Msg{Kind: api.Prepare, Height: n.height(), Round: n.round, Chain: m.Chain, Prepared: -1})
			n.looksPrepared()
		}
	case api.Prepare:
		if m.Round >= n.round {
			n.prepares[key] |= 1 << m.From
			if n.isMember() {
				n.looksPrepared()
			}
		}
	case api.Commit:
		n.commits[key] |= 1 << m.From
		if by := n.commits[key]; bits.OnesCount(uint(by)) >= n.quorum() {
			n.end(m.Chain, m.Round, by)
		}
	case api.Change:
		n.change(m)
	}
}

func (n *modelNode) change(m api.Msg) {
	key := fmt.Sprint(m.Round, m.From)
	move := api.Move{Node: m.From, Prepared: m.Prepared, Chain: m.Chain, By: m.By}
	if _, has := n.moves[key]; has || m.Round == 0 || !n.sound(move, m.Round) {
		return
	}
	n.moves[key] = move
	if n.isMember() {
		var tops []int
		for _, i := range n.members() {
			top := 0
			for r := range 10 {
				if _, has := n.moves[fmt.Sprint(r, i)]; has {
					top = r
				}
			}
			if top > n.round {
				tops = append(tops, top)
			}
		}
		if len(tops) > faultsOf(len(n.members())) {
			n.begin(slices.Min(tops))
		}
	}
	n.looksPropose()
}

// shown: the members of by, and are they a quorum, and believed.
func (n *modelNode) shown(kind api.Kind, round int, chain string, by int) (int, bool) {
	s, count := 0, 0
	for _, i := range n.members() {
		if by>>i&1 == 0 {
			continue
		}
		s |= 1 << i
		count++
		if !n.w.believed(api.Msg{Kind: kind, From: i, Height: n.height(), Round: round, Chain: chain, Prepared: -1}) {
			return 0, false
		}
	}
	return s, count >= n.quorum()
}

func (n *modelNode) sound(move api.Move, round int) bool {
	if move.Prepared == -1 {
		return true
	}
	_, ok := n.shown(api.Prepare, move.Prepared, move.Chain, move.By)
	return move.Prepared >= 0 && move.Prepared <= round-1 && n.oneMore(move.Chain) && ok
}

func (n *modelNode) justify(m api.Msg) bool {
	for _, move := range m.Moves {
		if !slices.Contains(n.members(), move.Node) || !n.sound(move, m.Round) {
			return false
		}
		if !n.w.believed(api.Msg{Kind: api.Change, From: move.Node, Height: m.Height, Round: m.Round, Prepared: move.Prepared, Chain: move.Chain, By: move.By}) {
			return false
		}
	}
	best := greatestPrepared(m.Moves)
	return len(m.Moves) >= n.quorum() && (best.Prepared == -1 || best.Chain == m.Chain)
}

func (n *modelNode) tick() {
	if n.height() > 6 {
		return
	}
	n.left--
	if n.left > 0 {
		return
	}
	if n.isMember() && n.round < 9 {
		n.begin(n.round + 1)
		return
	}
	n.left = 4 << n.round
	if !n.isMember() {
		n.all(api.Msg{Kind: api.Ask, Height: n.height(), Prepared: -1})
	}
}

func (w *model) view(i int) (api.View, api.Errno) {
	if i < 0 || i > 6 || w.nodes[i] == nil {
		return api.View{}, api.ErrNode
	}
	n := w.nodes[i]
	return api.View{Up: n.up, Sent: n.sent, Chain: n.chain, Round: n.round, Left: n.left, Accepted: n.accepted, Prepared: n.prepared, For: n.preparedFor, By: n.preparedBy}, api.OK
}

func (w *model) ledger(i int) (string, api.Errno) {
	if i < 0 || i > 6 || w.nodes[i] == nil {
		return "", api.ErrNode
	}
	n := w.nodes[i]
	blocks := len(n.chain) / 3
	text := []byte{byte(blocks)}
	for at := range blocks {
		text = append(text, n.chain[3*at], n.chain[3*at+1], n.chain[3*at+2], byte(n.sealRounds[at]), byte(n.sealSets[at]))
	}
	return string(text), api.OK
}

func (w *model) follow(ledger string) (string, api.Errno) {
	if ledger == "" || ledger[0] > 6 || len(ledger) != 1+5*int(ledger[0]) {
		return "", api.ErrForm
	}
	for at := 1; at < len(ledger); at += 5 {
		if ledger[at+3] > 9 || ledger[at+4] > 127 {
			return "", api.ErrForm
		}
	}
	chain := ""
	for at := 1; at < len(ledger); at += 5 {
		members, _ := Members(w.first, chain)
		chain += ledger[at : at+3]
		if _, e := Members(w.first, chain); e != api.OK {
			return "", api.ErrChain
		}
		if !w.sealed(members, chain, int(ledger[at+3]), int(ledger[at+4])) {
			return "", api.ErrSeals
		}
	}
	return chain, api.OK
}

func (w *model) sealed(members []int, chain string, round, seals int) bool {
	for i := range 7 {
		if seals>>i&1 == 0 {
			continue
		}
		if !slices.Contains(members, i) || !w.believed(api.Msg{Kind: api.Commit, From: i, Height: len(chain) / 3, Round: round, Chain: chain, Prepared: -1}) {
			return false
		}
	}
	return bits.OnesCount(uint(seals)) >= quorumOf(len(members))
}
