package command_test

import (
	"fmt"
	"math"
	"strings"
	"testing"

	"heartwood/api"
	"heartwood/avl"
	"heartwood/command"
)

// P12.2.

// notCommands are bytes that are not exactly the encoding of a command.
func notCommands() []string {
	good := spelled(put(5, 9, "a", "1"))
	out := []string{
		"", "\x00", "\x05\x09", good[1:], "\xff", good + "\x00", good + good, good + spelled(del(5, 10, "a")),
		"\x05\x09\x00\x01a\x011", "\x05\x09\x03\x01a\x011", "\x05\x09\xff\x01a\x00", "\x05\x09\x02\x01a\x011",
		"\xf8\x05\x09\x01\x01a\x011", "\x05\xf8\x09\x01\x01a\x011", "\x05\x09\x01\xf8\x01a\x011", "\x05\x09\x01\x01a\xf8\x011",
		"\x05\x09\x01\x41" + filled(65, 1) + "\x011", "\x05\x09\x01\x01a\xf9\x04\x01" + filled(1025, 1), filled(3000, 2),
	}
	for n := range len(good) {
		out = append(out, good[:n])
	}
	return out
}

// mustDo applies a command and wants its result and what stands in the tree
// afterwards: the user's key with its value, or neither, and the session.
func mustDo(t testing.TB, x api.Tree, c api.Command, result api.Result) api.Tree {
	t.Helper()
	y, r, err := command.Apply(x, []byte(spelled(c)))
	if err != nil || r != result || !avl.Is(y) {
		t.Fatalf("%s to %s = %s, %d, %v, want %d", toldCommand(c), told(x), told(y), r, err, result)
	}
	if want, wantResult := spelledDo(t, x, c); !same(y, want) || wantResult != result {
		t.Errorf("%s to %s = %s, want %s and %d", toldCommand(c), told(x), told(y), told(want), wantResult)
	}
	mustStand(t, toldCommand(c), y, sessionKey(c.Client), number(c.Seq)+string([]byte{byte(result)}))
	if c.Op == 1 {
		mustStand(t, toldCommand(c), y, "u"+string(c.Key), string(c.Value))
	} else if value, is := found(y, "u"+string(c.Key)); is {
		t.Errorf("%s: %q is left", toldCommand(c), value)
	}
	return y
}

// mustStand wants a pair in a tree.
func mustStand(t testing.TB, what string, x api.Tree, key, value string) {
	t.Helper()
	if got, is := found(x, key); !is || got != value {
		t.Errorf("%s: %x = %x, %v, want %x, in %s", what, key, got, is, value, told(x))
	}
}

// mustStay wants a command to change nothing, with a result.
func mustStay(t testing.TB, what string, x api.Tree, c api.Command, result api.Result) {
	t.Helper()
	mustApply(t, what+": "+toldCommand(c), x, spelled(c), x, result)
}

// TestExamples are those of the document.
func TestExamples(t *testing.T) {
	x := mustDo(t, none, put(5, 1, "a", "1"), 1)
	want := node(leaf("s\x00\x00\x00\x00\x00\x00\x00\x05", "\x01\x01"), "ua", "1", none)
	if !same(x, want) {
		t.Errorf("put a 1 = %s, want %s", told(x), told(want))
	}
	mustStay(t, "the same again", x, put(5, 1, "a", "1"), api.ResNew)
	mustStay(t, "seq 0", x, put(5, 0, "a", "2"), api.ResOld)
	mustLook(t, "Look a", x, "a", "1")
}

// TestResultsAreNumbered: the results in a session's value are these bytes.
func TestResultsAreNumbered(t *testing.T) {
	x := mustDo(t, none, put(5, 1, "a", "1"), 1)
	mustStand(t, "ResNew", x, "s\x00\x00\x00\x00\x00\x00\x00\x05", "\x01\x01")
	x = mustDo(t, x, put(5, 2, "a", "2"), 2)
	mustStand(t, "ResOver", x, "s\x00\x00\x00\x00\x00\x00\x00\x05", "\x02\x02")
	x = mustDo(t, x, del(5, 247, "a"), 3)
	mustStand(t, "ResGone", x, "s\x00\x00\x00\x00\x00\x00\x00\x05", "\xf7\x03")
	x = mustDo(t, x, del(5, 248, "a"), 4)
	mustStand(t, "ResMissing", x, "s\x00\x00\x00\x00\x00\x00\x00\x05", "\xf8\xf8\x04")
	mustStay(t, "ResOld", x, del(5, 247, "a"), 5)
	if api.ResNone != 0 || api.ResNew != 1 || api.ResOver != 2 || api.ResGone != 3 || api.ResMissing != 4 || api.ResOld != 5 {
		t.Error("the results have other numbers")
	}
}

// TestApplyToTreesThatAreAmiss: the tree comes first, whatever the bytes are.
func TestApplyToTreesThatAreAmiss(t *testing.T) {
	good := []string{spelled(put(5, 9, "a", "1")), spelled(put(5, 1, "a", "1")), spelled(put(5, 0, "b", "1")), spelled(del(5, 9, "a")), spelled(del(6, 0, "x"))}
	for _, x := range amiss() {
		for _, b := range append(notCommands(), good...) {
			mustNotApply(t, x.name, x.t, b)
		}
		if y, r, err := command.Apply(x.t, nil); !same(y, none) || r != 0 || err != api.ErrForm {
			t.Errorf("Apply to %s of nil = %s, %d, %v", x.name, told(y), r, err)
		}
	}
}

// TestVeryDeepTrees: deep ones are refused like all others.
func TestVeryDeepTrees(t *testing.T) {
	x := stacked(60000, leaf("ua", "1"))
	mustNotApply(t, "60000 levels", x, spelled(put(5, 9, "a", "1")))
	mustNotApply(t, "60000 levels", x, "")
	mustAgreeOnLook(t, "60000 levels", x, "a")
	mustAgreeOnLook(t, "60000 levels", x, filled(65, 1))
}

// TestApplyOfNoCommand: the tree stays as it is, and there is no session.
func TestApplyOfNoCommand(t *testing.T) {
	for _, x := range []api.Tree{none, leaf("ua", "1"), leaf(sessionKey(5), "\x09\x02"), grown(t, 30)} {
		for _, b := range notCommands() {
			mustApply(t, "no command", x, b, x, api.ResNone)
		}
		mustApply(t, "a command that is too long", x, spelled(put(5, 9, "a", "1"))+filled(100000, 1), x, api.ResNone)
		if y, r, err := command.Apply(x, nil); !same(x, y) || r != 0 || err != nil {
			t.Errorf("Apply to %s of nil = %s, %d, %v", told(x), told(y), r, err)
		}
	}
}

// TestExecuted: each kind of command, with its result, for keys of all lengths
// in trees that have many others.
func TestExecuted(t *testing.T) {
	for _, x := range []api.Tree{none, grown(t, 3), grown(t, 40)} {
		for _, key := range []string{"", "a", "\x00", "\xff", "s", "u", "ua", sessionKey(9), filled(63, 1), filled(64, 1)} {
			x = without(t, x, "u"+key)
			for i, value := range []string{"", "1", "\x01\x01", filled(247, 2), filled(1023, 3), filled(1024, 4)} {
				seq := uint64(100 + 10*i)
				mustDo(t, x, del(9, seq, key), 4)
				y := mustDo(t, x, put(9, seq, key, value), 1)
				twice := mustDo(t, y, put(9, seq+1, key, value), 2)
				mustStay(t, "the same again", twice, put(9, seq+1, key, value), 2)
				other := mustDo(t, twice, put(9, seq+2, key, "other"), 2)
				empty := mustDo(t, other, put(9, seq+3, key, ""), 2)
				gone := mustDo(t, empty, del(9, seq+4, key), 3)
				missing := mustDo(t, gone, del(9, seq+5, key), 4)
				mustDo(t, missing, put(9, seq+6, key, "new"), 1)
			}
		}
	}
}

// TestSessionKeys: eight bytes, the greatest first, whatever the number is.
func TestSessionKeys(t *testing.T) {
	for _, x := range []struct {
		client uint64
		key    string
	}{
		{0, "s\x00\x00\x00\x00\x00\x00\x00\x00"},
		{1, "s\x00\x00\x00\x00\x00\x00\x00\x01"},
		{247, "s\x00\x00\x00\x00\x00\x00\x00\xf7"},
		{248, "s\x00\x00\x00\x00\x00\x00\x00\xf8"},
		{256, "s\x00\x00\x00\x00\x00\x00\x01\x00"},
		{0x0102030405060708, "s\x01\x02\x03\x04\x05\x06\x07\x08"},
		{0xf1e2d3c4b5a69788, "s\xf1\xe2\xd3\xc4\xb5\xa6\x97\x88"},
		{1 << 60, "s\x10\x00\x00\x00\x00\x00\x00\x00"},
		{1 << 63, "s\x80\x00\x00\x00\x00\x00\x00\x00"},
		{math.MaxUint64, "s\xff\xff\xff\xff\xff\xff\xff\xff"},
	} {
		y := mustDo(t, none, del(x.client, 7, "k"), 4)
		if !same(y, leaf(x.key, "\x07\x04")) {
			t.Errorf("the session of %d: %s", x.client, told(y))
		}
		mustStay(t, "a session by hand", leaf(x.key, "\x07\x02"), del(x.client, 7, "k"), 2)
		mustStay(t, "a session by hand", leaf(x.key, "\x07\x02"), del(x.client, 6, "k"), 5)
	}
	for _, client := range edges() {
		mustDo(t, none, put(client, 1, "k", "v"), 1)
	}
}

// TestSequence: less, equal and greater, at all edges, with each result. A
// session's result stands for all that comes with its number, whatever it asks.
func TestSequence(t *testing.T) {
	for _, last := range edges() {
		for r := api.Result(1); r <= 4; r++ {
			x := with(t, leaf("ua", "1"), sessionKey(5), number(last)+string([]byte{byte(r)}))
			for _, seq := range append(edges(), last-1, last, last+1) {
				for _, c := range []api.Command{put(5, seq, "a", "2"), put(5, seq, "b", "2"), del(5, seq, "a"), del(5, seq, "b")} {
					switch {
					case seq < last:
						mustStay(t, "less", x, c, api.ResOld)
					case seq == last:
						mustStay(t, "equal", x, c, r)
					default:
						_, is := found(x, "u"+string(c.Key))
						mustDo(t, x, c, map[int]map[bool]api.Result{1: {false: 1, true: 2}, 2: {false: 4, true: 3}}[c.Op][is])
					}
				}
			}
		}
	}
}

// TestSequenceGaps: the numbers of a client's commands need not be neighbours,
// and those between are old for ever.
func TestSequenceGaps(t *testing.T) {
	x := mustDo(t, none, put(1, 10, "a", "1"), 1)
	x = mustDo(t, x, put(1, 1000, "a", "2"), 2)
	for seq := range uint64(1000) {
		mustStay(t, "one that is old", x, put(1, seq, "a", "old"), 5)
	}
	mustStay(t, "the last one", x, put(1, 1000, "a", "last"), 2)
	x = mustDo(t, x, put(1, math.MaxUint64, "a", "3"), 2)
	mustStay(t, "the one before the greatest", x, put(1, math.MaxUint64-1, "a", "4"), 5)
	mustStay(t, "the greatest", x, put(1, math.MaxUint64, "a", "4"), 2)
}

// TestNoSessions: a value that is no session is as if there were none, and is
// written over.
func TestNoSessions(t *testing.T) {
	for _, value := range []string{
		"", "\x09", "\x09\x00", "\x09\x05", "\x09\x06", "\x09\xff", "\x09\x01\x01", "\x09\x01\x00", "\x09\x00\x01", "\x09\x05\x01",
		"\xf8", "\xf8\x09", "\xf8\x09\x01", "\xf8\xf7\x01", "\xf9\x00\xf8\x01", "\xf9\x01\x00", "\xf9\x00\x09\x01", "\xff\x00\x00\x00\x00\x00\x00\x00\x09\x01",
		"\xff\x00\xff\xff\xff\xff\xff\xff\xff\x01", "\xff\xff\xff\xff\xff\xff\xff\xff\xff", "\xff\xff\xff\xff\xff\xff\xff\xff\x01",
		"\x09\x81", "\x09\x14", "\x01\x09", "\x00\x09", "91", filled(1024, 1), "\x09\x01" + filled(1022, 1),
	} {
		if _, _, is := sessionOf(value); is {
			t.Fatalf("%x is a session", value)
		}
		x := with(t, leaf("ua", "1"), sessionKey(5), value)
		for _, seq := range []uint64{0, 1, 8, 9, 10, 247, 248, math.MaxUint64} {
			mustDo(t, x, put(5, seq, "a", "2"), 2)
			mustDo(t, x, put(5, seq, "b", "2"), 1)
			mustDo(t, x, del(5, seq, "a"), 3)
			mustDo(t, x, del(5, seq, "b"), 4)
		}
	}
}

// TestSessionsOfAllShortValues holds all short values of some bytes, and all of
// two bytes, against the document's words.
func TestSessionsOfAllShortValues(t *testing.T) {
	some := "\x00\x01\x02\x03\x04\x05\xf7\xf8\xf9\xff"
	values := append(strung(0, some), strung(1, some)...)
	values = append(append(values, strung(3, some)...), strung(4, "\x00\x01\x04\xf8\xf9")...)
	for a := range 256 {
		for _, b := range []byte{0, 1, 2, 3, 4, 5, 6, 128, 129, 255} {
			values = append(values, string([]byte{byte(a), b}), string([]byte{0xf8, byte(a), b}))
		}
	}
	for _, value := range values {
		x := with(t, leaf("ua", "1"), sessionKey(5), value)
		seqs := []uint64{0, 3, 247, 256, 1025}
		if seq, _, is := sessionOf(value); is {
			seqs = []uint64{seq - 1, seq, seq + 1}
		}
		for _, seq := range seqs {
			mustAgreeOnApply(t, fmt.Sprintf("a value %x", value), x, spelled(put(5, seq, "a", "2")))
		}
	}
}

// TestKeysThatAreNoSessionsKey: those that are shorter or longer, that begin
// otherwise or have their bytes in another order, and other clients' keys.
func TestKeysThatAreNoSessionsKey(t *testing.T) {
	for _, key := range []string{
		"s", "s\x05", "s\x00\x00\x00\x00\x00\x00\x05", "s\x00\x00\x00\x00\x00\x00\x00\x00\x05", sessionKey(5) + "\x00", "s\x05\x00\x00\x00\x00\x00\x00\x00",
		"S" + sessionKey(5)[1:], "t" + sessionKey(5)[1:], "\x73s" + sessionKey(5)[1:], "us\x00\x00\x00\x00\x00\x00\x00\x05", "u" + sessionKey(5)[1:], sessionKey(5)[1:], "", "s5",
		sessionKey(4), sessionKey(6), sessionKey(5 + 256), sessionKey(5 << 56), sessionKey(5 + 1<<32), sessionKey(5 + 1<<63),
	} {
		x := leaf(key, "\x09\x02")
		y := mustDo(t, x, put(5, 9, "b", "2"), 1)
		mustStand(t, "the other pair", y, key, "\x09\x02")
		y = mustDo(t, x, del(5, 0, "b"), 4)
		mustStand(t, "the other pair", y, key, "\x09\x02")
	}
}

// TestTwoClients: each has its own numbers and results.
func TestTwoClients(t *testing.T) {
	x := mustDo(t, none, put(1, 100, "a", "1"), 1)
	x = mustDo(t, x, put(2, 1, "a", "2"), 2)
	mustStay(t, "the first one's again", x, put(1, 100, "a", "1"), 1)
	mustStay(t, "the second one's again", x, put(2, 1, "a", "2"), 2)
	mustStay(t, "the first one's, from before", x, put(1, 99, "a", "0"), 5)
	x = mustDo(t, x, del(2, 50, "a"), 3)
	mustStay(t, "the first one's again", x, put(1, 100, "a", "1"), 1)
	x = mustDo(t, x, del(1, 101, "a"), 4)
	mustStay(t, "the second one's again", x, del(2, 50, "a"), 3)
	mustStay(t, "the second one's, from before", x, put(2, 1, "a", "2"), 5)
	x = mustDo(t, x, put(2, 51, "a", "3"), 1)
	mustStay(t, "the first one's again", x, del(1, 101, "a"), 4)
	mustLook(t, "two clients", x, "a", "3")
	for round := range uint64(30) {
		for client := range uint64(7) {
			key := strings.Repeat("k", int(round%3))
			_, is := found(x, "u"+key)
			x = mustDo(t, x, put(client, 200+round*(client+1), key, filled(int(client), 1)), map[bool]api.Result{false: 1, true: 2}[is])
		}
	}
}

// TestMorePairs: other pairs in the tree, of users, sessions and neither, stay.
func TestMorePairs(t *testing.T) {
	x := grown(t, 20)
	for _, key := range []string{"", "\x00", "t", "v", "ua" + filled(70, 1), "s", "s\x00", filled(80, 2)} {
		x = with(t, x, key, "other "+key[:min(9, len(key))])
	}
	before := pairs(x)
	y := mustDo(t, x, put(99, 1, "new", "v"), 1)
	after := pairs(y)
	if len(after) != len(before)+2 {
		t.Errorf("%d pairs became %d", len(before), len(after))
	}
	for key, value := range before {
		if after[key] != value {
			t.Errorf("%q = %q, was %q", key, after[key], value)
		}
	}
	after = pairs(mustDo(t, y, del(99, 2, "new"), 3))
	delete(after, sessionKey(99))
	if fmt.Sprint(after) != fmt.Sprint(before) {
		t.Errorf("after a put and a delete: %q, want %q", after, before)
	}
}

// pairs are those of a full tree.
func pairs(x api.Tree) map[string]string {
	out := map[string]string{}
	var walk func(x api.Tree)
	walk = func(x api.Tree) {
		if len(x.Kids) != 2 {
			return
		}
		walk(x.Kids[0])
		out[string(x.Key)] = string(x.Value)
		walk(x.Kids[1])
	}
	walk(x)
	return out
}

// TestOrderOfWork: the user's key is worked on first, then the session. Where
// the tree turns, the other order would make another tree.
func TestOrderOfWork(t *testing.T) {
	differ := 0
	for n := range 40 {
		x := grown(t, n)
		for _, c := range []api.Command{put(100, 1, "zz", "v"), put(0, 1000, filled(9, uint32(n)), "v"), del(100, 1, filled(n%5, uint32(n))), del(100, 2, "")} {
			y, r := mustAgreeOnApply(t, "the order", x, spelled(c))
			z := with(t, x, sessionKey(c.Client), number(c.Seq)+string([]byte{byte(r)}))
			if c.Op == 1 {
				z = with(t, z, "u"+string(c.Key), string(c.Value))
			} else {
				z = without(t, z, "u"+string(c.Key))
			}
			if !same(y, z) {
				differ++
			}
		}
	}
	if differ == 0 {
		t.Error("the order never mattered")
	}
}
