package wire

import (
	"math"
	"reflect"
	"strings"
	"testing"

	"moot/api"
)

func chainOf(height int) string {
	return strings.Repeat("\xff\x00z", height)
}

func moved(node, prepared, height, by int) api.Move {
	return api.Move{Node: node, Prepared: prepared, Chain: chainOf(height), By: by}
}

func stayed(node int) api.Move {
	return api.Move{Node: node, Prepared: api.NoRound}
}

func ask() api.Msg {
	return api.Msg{Kind: api.Ask, From: 2, Height: 3, Prepared: api.NoRound}
}

func said(kind api.Kind) api.Msg {
	return api.Msg{Kind: kind, From: 1, Height: 2, Round: 3, Chain: chainOf(2), Prepared: api.NoRound}
}

func final() api.Msg {
	m := said(api.Final)
	m.By = 7
	return m
}

func change() api.Msg {
	return api.Msg{Kind: api.Change, From: 1, Height: 2, Round: 3, Prepared: 2, Chain: chainOf(2), By: 7}
}

func changeOfNothing() api.Msg {
	return api.Msg{Kind: api.Change, From: 1, Height: 2, Round: 3, Prepared: api.NoRound}
}

func firstPropose() api.Msg {
	m := said(api.Propose)
	m.Round = 0
	return m
}

func propose() api.Msg {
	m := said(api.Propose)
	m.Moves = []api.Move{moved(0, 2, 2, 127), stayed(3), moved(6, 0, 2, 0)}
	return m
}

func eachKind() []api.Msg {
	return []api.Msg{ask(), said(api.Prepare), said(api.Commit), final(), change(), changeOfNothing(), firstPropose(), propose()}
}

// mustBe asks both calls: what may be is written and read back, what may not is refused.
func mustBe(t *testing.T, what string, m api.Msg, may bool) {
	t.Helper()
	s, e := Encode(m)
	if !may {
		if s != "" || e != api.ErrForm {
			t.Errorf("P4: %s: Encode(%#v): %q, %d, want ErrForm", what, m, s, e)
		}
		return
	}
	if e != api.OK {
		t.Errorf("P4: %s: Encode(%#v): %d", what, m, e)
		return
	}
	if back, e := Decode(s); e != api.OK || !reflect.DeepEqual(back, m) {
		t.Errorf("P4: %s: %q: %#v, %d, want %#v", what, s, back, e, m)
	}
}

func TestEachKindAsItIs(t *testing.T) {
	for _, m := range eachKind() {
		mustBe(t, "as it is", m, true)
	}
}

func TestBytes(t *testing.T) {
	chain := chainOf(2)
	for _, c := range []struct {
		m    api.Msg
		want string
	}{
		{ask(), "\x06\x02\x03\x00"},
		{said(api.Prepare), "\x02\x01\x02\x03" + chain},
		{said(api.Commit), "\x03\x01\x02\x03" + chain},
		{final(), "\x05\x01\x02\x03" + chain + "\x07"},
		{change(), "\x04\x01\x02\x03\x03" + chain + "\x07"},
		{changeOfNothing(), "\x04\x01\x02\x03\x00"},
		{firstPropose(), "\x01\x01\x02\x00" + chain + "\x00"},
		{propose(), "\x01\x01\x02\x03" + chain + "\x03\x00\x03" + chain + "\x7f\x03\x00\x06\x01" + chain + "\x00"},
	} {
		if s, e := Encode(c.m); s != c.want || e != api.OK {
			t.Errorf("P4: Encode(%#v): %q, %d, want %q", c.m, s, e, c.want)
		}
	}
}

var numbers = []int{math.MinInt, math.MinInt32, -257, -256, -2, -1, 0, 1, 2, 3, 4, 5, 6, 7, 8, 9, 10, 11, 126, 127, 128, 129, 255, 256, 257, 258, 259, 1 << 32, 1<<32 + 1, 1<<62 + 2, math.MaxInt}

func TestKind(t *testing.T) {
	for _, n := range numbers {
		m := ask()
		m.Kind = api.Kind(n)
		mustBe(t, "Ask of another kind", m, n == 6 || n == 4)
		m = said(api.Commit)
		m.Kind = api.Kind(n)
		mustBe(t, "Commit of another kind", m, n == 2 || n == 3 || n == 5)
		m = changeOfNothing()
		m.Kind = api.Kind(n)
		mustBe(t, "Change of another kind", m, n == 4)
	}
}

func TestFrom(t *testing.T) {
	for _, n := range numbers {
		for _, m := range eachKind() {
			m.From = n
			mustBe(t, "From", m, n >= 0 && n <= 6)
		}
	}
}

// fit gives a message the chains that its height asks for, as far as there can be such.
func fit(m api.Msg) api.Msg {
	height := min(max(m.Height, 0), 20)
	if m.Chain != "" {
		m.Chain = chainOf(height)
	}
	moves := m.Moves
	m.Moves = nil
	for _, move := range moves {
		if move.Chain != "" {
			move.Chain = chainOf(height)
		}
		m.Moves = append(m.Moves, move)
	}
	return m
}

func TestHeight(t *testing.T) {
	for _, n := range numbers {
		for _, m := range eachKind() {
			m.Height = n
			mustBe(t, "Height and chains", fit(m), n >= 1 && (n <= 6 || n == 7 && m.Kind != api.Ask))
			if m.Chain != "" && n != 2 {
				mustBe(t, "Height and other chains", m, false)
			}
		}
	}
}

func TestRound(t *testing.T) {
	for _, n := range numbers {
		m := ask()
		m.Round = n
		mustBe(t, "Round", m, n == 0)
		for _, m := range []api.Msg{said(api.Prepare), said(api.Commit), final(), changeOfNothing()} {
			m.Round = n
			mustBe(t, "Round", m, n >= 0 && n <= 9)
		}
		for _, m := range []api.Msg{change(), propose()} {
			m.Round = n
			mustBe(t, "Round above that of being prepared", m, n >= 3 && n <= 9)
		}
		m = firstPropose()
		m.Round = n
		mustBe(t, "Round without Moves", m, n == 0)
		m.Moves = []api.Move{stayed(5)}
		mustBe(t, "Round with a Move", m, n >= 1 && n <= 9)
	}
}

func TestChain(t *testing.T) {
	for _, m := range eachKind() {
		empty := m.Chain == ""
		for length := range 25 {
			m.Chain = chainOf(9)[:length]
			mustBe(t, "Chain", m, empty && length == 0 || !empty && length == 6)
		}
	}
}

func TestPrepared(t *testing.T) {
	for _, n := range numbers {
		for _, m := range eachKind() {
			m.Prepared = n
			switch {
			case m.Kind != api.Change:
				mustBe(t, "Prepared", m, n == -1)
			case m.Chain == "":
				mustBe(t, "Prepared without a chain", m, n == -1)
			default:
				mustBe(t, "Prepared with a chain", m, n >= 0 && n <= 2)
			}
		}
		m := changeOfNothing()
		m.Round, m.Prepared = 0, n
		mustBe(t, "Prepared ahead of round 0", m, n == -1)
		m = change()
		m.Round, m.Prepared = 0, n
		mustBe(t, "Prepared with a chain ahead of round 0", m, false)
	}
}

func TestBy(t *testing.T) {
	for _, n := range numbers {
		for _, m := range eachKind() {
			m.By = n
			set := m.Kind == api.Final || m.Kind == api.Change && m.Prepared != api.NoRound
			mustBe(t, "By", m, n == 0 || set && n >= 0 && n <= 127)
		}
	}
}

func TestOnlyProposeHasMoves(t *testing.T) {
	for _, m := range eachKind() {
		m.Moves = []api.Move{stayed(1)}
		mustBe(t, "a Move", m, m.Kind == api.Propose && m.Round > 0)
	}
}

func TestHowManyMoves(t *testing.T) {
	m := propose()
	m.Moves = nil
	mustBe(t, "no Moves", m, false)
	for node := range 7 {
		m.Moves = append(m.Moves, moved(node, 1, 2, node))
		mustBe(t, "Moves from 0 on", m, true)
	}
	m.Moves = append(m.Moves, moved(7, 1, 2, 7))
	mustBe(t, "a Move of no node", m, false)
	m.Moves[7].Node = 6
	mustBe(t, "one Move too many", m, false)
	m.Moves = make([]api.Move, 1000)
	mustBe(t, "far too many", m, false)
}

func TestNodesOfMovesRise(t *testing.T) {
	for _, a := range numbers {
		for _, b := range numbers {
			m := propose()
			m.Moves = []api.Move{stayed(a), stayed(b)}
			mustBe(t, "two Moves", m, 0 <= a && a < b && b <= 6)
		}
	}
}

func TestContentsOfMoves(t *testing.T) {
	for _, n := range numbers {
		m := propose()
		m.Moves[1].Prepared = n
		mustBe(t, "Prepared of a Move without a chain", m, n == -1)
		m = propose()
		m.Moves[0].Prepared = n
		mustBe(t, "Prepared of a Move with a chain", m, n >= 0 && n <= 2)
		m = propose()
		m.Moves[1].By = n
		mustBe(t, "By of a Move without a chain", m, n == 0)
		m = propose()
		m.Moves[2].By = n
		mustBe(t, "By of a Move with a chain", m, n >= 0 && n <= 127)
	}
	for length := range 25 {
		m := propose()
		m.Moves[1].Chain = chainOf(9)[:length]
		mustBe(t, "Chain of a Move that was not prepared", m, length == 0)
		m = propose()
		m.Moves[2].Chain = chainOf(9)[:length]
		mustBe(t, "Chain of a Move that was prepared", m, length == 6)
	}
}

func TestLengthMatters(t *testing.T) {
	for _, m := range eachKind() {
		s, _ := Encode(m)
		for length := range len(s) {
			mustRefuse(t, s[:length])
		}
		for c := range 256 {
			mustRefuse(t, s+string([]byte{byte(c)}))
		}
		mustRefuse(t, s+s)
		mustRefuse(t, s+strings.Repeat("\x00", 1<<20))
	}
}

func mustRefuse(t *testing.T, s string) {
	t.Helper()
	if m, e := Decode(s); e != api.ErrForm || !reflect.DeepEqual(m, api.Msg{}) {
		t.Errorf("P4: Decode(%.40q): %#v, %d", s, m, e)
	}
}

// Bytes that differ in one place from a message's are refused, or are just those of the message that is read from them.
func TestOneByteOff(t *testing.T) {
	for _, m := range eachKind() {
		s, _ := Encode(m)
		for at := range len(s) {
			for c := range 256 {
				text := s[:at] + string([]byte{byte(c)}) + s[at+1:]
				m, e := Decode(text)
				if e != api.OK {
					mustRefuse(t, text)
				} else if back, e := Encode(m); back != text || e != api.OK {
					t.Errorf("P4: Decode(%q): %#v, and Encode of it: %q, %d", text, m, back, e)
				}
			}
		}
	}
}

// So short only Ask, and Change of nothing, can be: how many there are is known.
func TestAllShortBytes(t *testing.T) {
	alphabet := "\x00\x01\x02\x03\x04\x05\x06\x07\x08\x09\x0a\x7f\x80\xff"
	texts := []string{""}
	for length, want := range []int{0, 0, 0, 0, 7 * 6, 7 * 7 * 10} {
		read := 0
		for _, text := range texts {
			if _, e := Decode(text); e == api.OK {
				read++
			}
		}
		if read != want {
			t.Errorf("P4: of %d bytes %d are messages, want %d", length, read, want)
		}
		texts = longer(texts, alphabet)
	}
}

func longer(texts []string, alphabet string) []string {
	var all []string
	for _, text := range texts {
		for at := range len(alphabet) {
			all = append(all, text+alphabet[at:at+1])
		}
	}
	return all
}

func FuzzDecode(f *testing.F) {
	for _, m := range eachKind() {
		s, _ := Encode(m)
		f.Add(s)
	}
	f.Fuzz(func(t *testing.T, s string) {
		m, e := Decode(s)
		if e != api.OK {
			mustRefuse(t, s)
		} else if back, e := Encode(m); back != s || e != api.OK {
			t.Errorf("P4: Decode(%q): %#v, and Encode of it: %q, %d", s, m, back, e)
		}
	})
}
