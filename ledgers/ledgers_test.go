package ledgers

import (
	"slices"
	"strings"
	"testing"
	"unsafe"

	"moot/api"
	"moot/set"
)

func gullible(api.Msg) bool { return true }

// mustFollow looks what Follow answers where so many nodes were members at first.
func mustFollow(t *testing.T, first int, text string, believes func(api.Msg) bool, want string, e api.Errno) {
	t.Helper()
	if got, f := Follow(first, text, believes); got != want || f != e {
		t.Errorf("P8: %d members, Follow(%q): %q, %d, want %q, %d", first, text, got, f, want, e)
	}
}

func TestWrite(t *testing.T) {
	for _, c := range []struct {
		chain string
		seals []Seal
		want  string
	}{
		{"", nil, "\x00"},
		{"1.0", []Seal{{0, 7}}, "\x011.0\x00\x07"},
		{"1+62-03.0", []Seal{{9, 127}, {0, 11}, {3, 64}}, "\x031+6\x09\x7f2-0\x00\x0b3.0\x03\x40"},
		{strings.Repeat("1.0", 6), slices.Repeat([]Seal{{2, 14}}, 6), "\x06" + strings.Repeat("1.0\x02\x0e", 6)},
	} {
		if got := Write(c.chain, c.seals...); got != c.want {
			t.Errorf("P8: Write(%q, %v): %q, want %q", c.chain, c.seals, got, c.want)
		}
	}
}

func TestWhatIsWrittenIsFollowed(t *testing.T) {
	chain := "1+62+63.04-06-01.0"
	for count := range 7 {
		seals := slices.Repeat([]Seal{{count, 31}}, count)
		mustFollow(t, 5, Write(chain[:3*count], seals...), gullible, chain[:3*count], api.OK)
	}
}

func TestForms(t *testing.T) {
	block := "1.0\x00\x07"
	for count := range 256 {
		for blocks := range 9 {
			text := string([]byte{byte(count)}) + strings.Repeat(block, blocks)
			if count == blocks && count <= 6 {
				mustFollow(t, 4, text, gullible, strings.Repeat("1.0", count), api.OK)
			} else {
				mustFollow(t, 4, text, gullible, "", api.ErrForm)
			}
			mustFollow(t, 4, text+"\x00", gullible, "", api.ErrForm)
		}
	}
	mustFollow(t, 4, "", gullible, "", api.ErrForm)
	whole := "\x02" + block + block
	for size := range len(whole) {
		mustFollow(t, 4, whole[:size], gullible, "", api.ErrForm)
	}
	for _, long := range []string{strings.Repeat("\x00", 1<<20), strings.Repeat("\x06", 1<<20), strings.Repeat("1", 1<<20)} {
		if got, e := Follow(4, long, gullible); got != "" || e != api.ErrForm {
			t.Errorf("P8: a long text: %q, %d", got, e)
		}
	}
}

func TestRoundsAndSets(t *testing.T) {
	for number := range 256 {
		round, by := string([]byte{'1', '.', '0', byte(number), 7}), string([]byte{'1', '.', '0', 0, byte(number)})
		want, e := "1.0", api.OK
		if number > 9 {
			want, e = "", api.ErrForm
		}
		mustFollow(t, 4, "\x01"+round, gullible, want, e)
		want, e = "1.0", api.OK
		if set := set.Set(number); number > 127 {
			want, e = "", api.ErrForm
		} else if number > 15 || set.Size() < 3 {
			want, e = "", api.ErrSeals
		}
		mustFollow(t, 4, "\x01"+by, gullible, want, e)
		if number > 127 { // the form of all is looked at ahead of any block
			mustFollow(t, 4, "\x02"+"x.0\x00\x00"+round, gullible, "", api.ErrForm)
			mustFollow(t, 4, "\x02"+"x.0\x00\x00"+by, gullible, "", api.ErrForm)
		}
	}
}

func TestBlocksThatMayNotBe(t *testing.T) {
	for _, entry := range []string{"4.0", "7.0", "1.1", "1*0", "1+7", "1-8", "x.0", "1..", "\x01.0", "\xff\xff\xff", "\x00\x00\x00", "   "} {
		mustFollow(t, 4, "\x01"+entry+"\x00\x07", gullible, "", api.ErrChain)
		mustFollow(t, 4, "\x01"+entry+"\x00\x00", gullible, "", api.ErrChain)
		mustFollow(t, 4, "\x021.0\x00\x07"+entry+"\x00\x07", gullible, "", api.ErrChain)
	}
	for first := 4; first <= 7; first++ {
		for maker := range 7 {
			text := "\x01" + string(rune('0'+maker)) + ".0\x00"
			if all := string(rune(1<<first - 1)); maker < first {
				mustFollow(t, first, text+all, gullible, text[1:4], api.OK)
			} else {
				mustFollow(t, first, text+all, gullible, "", api.ErrChain)
			}
		}
	}
}

func TestTheFirstBlockThatDoesNotHoldIsTheAnswer(t *testing.T) {
	good, noSeals, noBlock := "1.0\x00\x07", "1.0\x00\x03", "4.0\x00\x07"
	mustFollow(t, 4, "\x02"+noSeals+noBlock, gullible, "", api.ErrSeals)
	mustFollow(t, 4, "\x02"+noBlock+noSeals, gullible, "", api.ErrChain)
	mustFollow(t, 4, "\x03"+good+noSeals+noBlock, gullible, "", api.ErrSeals)
	mustFollow(t, 4, "\x03"+good+noBlock+noSeals, gullible, "", api.ErrChain)
}

func TestQuorums(t *testing.T) {
	for first, quorum := range map[int]int{4: 3, 5: 4, 6: 4, 7: 5} {
		for by := range 128 {
			text := "\x011.0\x04" + string([]byte{byte(by)})
			if by < 1<<first && set.Set(by).Size() >= quorum {
				mustFollow(t, first, text, gullible, "1.0", api.OK)
			} else {
				mustFollow(t, first, text, gullible, "", api.ErrSeals)
			}
		}
	}
}

// Behind an epoch others are members: who seals the fourth block follows from the chain.
func TestSealsOfLaterMembers(t *testing.T) {
	joined := "\x041+6\x00\x0f2+6\x00\x0f3.0\x00\x0f0.0\x00"
	left := "\x041-4\x00\x1f2-4\x00\x1f3.0\x00\x1f0.0\x00"
	for by := range 128 {
		last, size := string([]byte{byte(by)}), set.Set(by).Size()
		if by&^(1+2+4+8+64) == 0 && size >= 4 {
			mustFollow(t, 4, joined+last, gullible, "1+62+63.00.0", api.OK)
		} else {
			mustFollow(t, 4, joined+last, gullible, "", api.ErrSeals)
		}
		if by < 16 && size >= 3 {
			mustFollow(t, 5, left+last, gullible, "1-42-43.00.0", api.OK)
		} else {
			mustFollow(t, 5, left+last, gullible, "", api.ErrSeals)
		}
	}
	mustFollow(t, 4, joined[:16]+"6.0\x00\x4f", gullible, "1+62+63.06.0", api.OK)
	mustFollow(t, 5, left[:16]+"4.0\x00\x0f", gullible, "", api.ErrChain)
}

// Each seal is a claim of its own: of a Commit, of the block's height and round, and of the chain up to it.
func TestClaims(t *testing.T) {
	text := "\x021.0\x03\x072+5\x00\x0b"
	want := []api.Msg{
		{Kind: api.Commit, From: 0, Height: 1, Round: 3, Chain: "1.0", Prepared: -1},
		{Kind: api.Commit, From: 1, Height: 1, Round: 3, Chain: "1.0", Prepared: -1},
		{Kind: api.Commit, From: 2, Height: 1, Round: 3, Chain: "1.0", Prepared: -1},
		{Kind: api.Commit, From: 0, Height: 2, Chain: "1.02+5", Prepared: -1},
		{Kind: api.Commit, From: 1, Height: 2, Chain: "1.02+5", Prepared: -1},
		{Kind: api.Commit, From: 3, Height: 2, Chain: "1.02+5", Prepared: -1},
	}
	for doubted := -1; doubted < len(want); doubted++ {
		believes := func(m api.Msg) bool {
			at := slices.IndexFunc(want, func(w api.Msg) bool { return same(w, m) })
			return at >= 0 && at != doubted
		}
		if doubted < 0 {
			mustFollow(t, 4, text, believes, "1.02+5", api.OK)
		} else {
			mustFollow(t, 4, text, believes, "", api.ErrSeals)
		}
	}
}

func same(a, b api.Msg) bool {
	return a.Kind == b.Kind && a.From == b.From && a.Height == b.Height && a.Round == b.Round && a.Chain == b.Chain && a.Prepared == b.Prepared && a.By == b.By && len(a.Moves) == 0 && len(b.Moves) == 0
}

func TestTheChainIsNewMemory(t *testing.T) {
	for count := 1; count <= 6; count++ {
		text := Write(strings.Repeat("1.0", count), slices.Repeat([]Seal{{0, 7}}, count)...)
		chain, _ := Follow(4, text, gullible)
		from, to := uintptr(unsafe.Pointer(unsafe.StringData(text))), uintptr(unsafe.Pointer(unsafe.StringData(chain)))
		if len(chain) != 3*count || to >= from && to < from+uintptr(len(text)) {
			t.Errorf("P2: the chain %q lies in the ledger", chain)
		}
	}
}

func FuzzFollow(f *testing.F) {
	f.Add("\x00", 4)
	f.Add("\x021.0\x03\x072+5\x00\x0b", 4)
	f.Add("\x041+6\x00\x0f2+6\x00\x0f3.0\x00\x0f0.0\x00\x4f", 5)
	f.Fuzz(func(t *testing.T, text string, first int) {
		chain, e := Follow(first, text, gullible)
		if e != api.OK {
			if chain != "" || e != api.ErrForm && e != api.ErrChain && e != api.ErrSeals {
				t.Fatalf("P1: %q, %d", chain, e)
			}
			return
		}
		var seals []Seal
		for at := 1; at < len(text); at += 5 {
			seals = append(seals, Seal{int(text[at+3]), set.Set(text[at+4])})
		}
		if Write(chain, seals...) != text {
			t.Fatalf("P8: %q is written as %q", text, Write(chain, seals...))
		}
	})
}
