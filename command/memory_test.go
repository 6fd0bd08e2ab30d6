package command_test

import (
	"fmt"
	"testing"

	"heartwood/api"
	"heartwood/command"
)

// P12.4: memory.

// roomyBytes is a copy with room behind it that is not the callee's.
func roomyBytes(b string) []byte {
	return append(append(make([]byte, 0, len(b)+8), b...), "sentinel"...)[:len(b)]
}

func roomyCommand(c api.Command) api.Command {
	c.Key, c.Value = roomyBytes(string(c.Key)), roomyBytes(string(c.Value))
	return c
}

// roomy is a copy of a tree that shares no memory with it, or with itself, and
// has room behind each list.
func roomy(x api.Tree) api.Tree {
	x.Key, x.Value, x.Digest = roomyBytes(string(x.Key)), roomyBytes(string(x.Value)), roomyBytes(string(x.Digest))
	kids := make([]api.Tree, len(x.Kids), len(x.Kids)+2)
	for i, kid := range x.Kids {
		kids[i] = roomy(kid)
	}
	copy(kids[len(kids):cap(kids)], []api.Tree{leaf("room", "1"), leaf("more room", "2")})
	x.Kids = kids
	return x
}

// wholeBytes tells bytes and what lies behind them.
func wholeBytes(b []byte) string { return fmt.Sprint(len(b)) + string(b[:cap(b)]) }

func wholeCommand(c api.Command) string {
	return fmt.Sprint(c.Client, " ", c.Seq, " ", c.Op, " ") + wholeBytes(c.Key) + wholeBytes(c.Value)
}

// whole tells all of a tree, and what lies behind its lists.
func whole(x api.Tree) string { return string(appendWhole(nil, x)) }

func appendWhole(out []byte, x api.Tree) []byte {
	out = fmt.Append(out, x.Kind)
	for _, b := range [][]byte{x.Key, x.Value, x.Digest} {
		out = append(fmt.Append(out, ","), wholeBytes(b)...)
	}
	out = fmt.Append(out, "(", len(x.Kids), ":")
	for _, kid := range x.Kids[:cap(x.Kids)] {
		out = appendWhole(out, kid)
	}
	return append(out, ')')
}

// flip changes bytes and what lies behind them.
func flip(b []byte) {
	for i := range b[:cap(b)] {
		b[:cap(b)][i] ^= 0xff
	}
}

// scrub changes all memory of a tree.
func scrub(x api.Tree) {
	flip(x.Key)
	flip(x.Value)
	flip(x.Digest)
	for i := range x.Kids {
		scrub(x.Kids[i])
		x.Kids[i] = api.Tree{Kind: 99}
	}
}

// manyCommands are those that change a grown tree in all ways, those that do
// not change it, and those that are none.
func manyCommands() []api.Command {
	out := append(sampleCommands(), put(1, 1, filled(65, 1), "v"), put(1, 1, "k", filled(1025, 1)), api.Command{})
	for i := range uint64(6) {
		key := filled(int(i)%5, uint32(i))
		out = append(out, put(i, 1000, key, "new"), del(i, 1000, key), put(i, i, key, "old"), put(100, i, filled(9, uint32(i)), ""), del(100, i, key))
	}
	return out
}

func TestWriteLeavesItsArgument(t *testing.T) {
	for _, c := range manyCommands() {
		d := roomyCommand(c)
		before := wholeCommand(d)
		b, err := command.Write(d)
		if wholeCommand(d) != before {
			t.Errorf("Write has changed %s", toldCommand(c))
		}
		if err != nil {
			continue
		}
		flip(b)
		if wholeCommand(d) != before {
			t.Errorf("what Write returned shares memory with %s", toldCommand(c))
		}
		flip(b)
		flip(d.Key)
		flip(d.Value)
		if string(b) != spelled(c) {
			t.Errorf("what Write returned changed with %s", toldCommand(c))
		}
	}
}

func TestReadLeavesItsArgument(t *testing.T) {
	for _, s := range append(notCommands(), spelled(put(1, 2, filled(64, 1), filled(1024, 1)))) {
		b := roomyBytes(s)
		before := wholeBytes(b)
		command.Read(b)
		if wholeBytes(b) != before {
			t.Errorf("Read has changed %s", short(s))
		}
	}
	for _, c := range sampleCommands() {
		b := roomyBytes(spelled(c))
		before := wholeBytes(b)
		d, err := command.Read(b)
		if err != nil || wholeBytes(b) != before {
			t.Errorf("Read of %s changed it, or %v", toldCommand(c), err)
		}
		flip(d.Key)
		if wholeBytes(b) != before || string(d.Value) != string(c.Value) {
			t.Errorf("the key of %s shares memory", toldCommand(c))
		}
		flip(d.Key)
		flip(d.Value)
		if wholeBytes(b) != before || string(d.Key) != string(c.Key) {
			t.Errorf("the value of %s shares memory", toldCommand(c))
		}
		flip(d.Value)
		flip(b)
		if !sameCommand(d, c) {
			t.Errorf("%s changed with the bytes", toldCommand(c))
		}
	}
}

func TestApplyLeavesItsArguments(t *testing.T) {
	trees := append(amiss()[:20], named{"nothing", none}, named{"one key", leaf("ua", "1")}, named{"five pairs", grown(t, 5)}, named{"many pairs", grown(t, 30)})
	for _, x := range trees {
		var all []string
		for _, c := range manyCommands() {
			all = append(all, spelled(c))
		}
		for _, s := range append(all, notCommands()...) {
			y, b := roomy(x.t), roomyBytes(s)
			before, beforeBytes := whole(y), wholeBytes(b)
			z, r, err := command.Apply(y, b)
			if whole(y) != before || wholeBytes(b) != beforeBytes {
				t.Errorf("Apply of %s has changed %s or its bytes", short(s), x.name)
			}
			flip(b)
			want, wantResult, wantErr := spelledApply(t, x.t, s)
			if !same(z, want) || r != wantResult || err != wantErr {
				t.Errorf("after the bytes %s are changed, %s is %s", short(s), x.name, told(z))
			}
		}
	}
}

// TestReturnedTreesDoNotShareTheBytes: the other way round, in the new pairs.
func TestReturnedTreesDoNotShareTheBytes(t *testing.T) {
	for _, c := range sampleCommands() {
		b := roomyBytes(spelled(c))
		before := wholeBytes(b)
		x, _, err := command.Apply(none, b)
		if err != nil {
			t.Fatal(err)
		}
		scrub(x)
		if wholeBytes(b) != before {
			t.Errorf("the tree of %s shares memory with the bytes", toldCommand(c))
		}
	}
}

// TestVersionsStay: trees that were returned before are as they were, after
// all that comes.
func TestVersionsStay(t *testing.T) {
	x := roomy(grown(t, 9))
	var versions []api.Tree
	var then []string
	for round := range uint64(20) {
		for i, c := range manyCommands() {
			c.Seq += 1000 * round
			b := roomyBytes(spelled(c))
			y, _, err := command.Apply(x, b)
			if err != nil {
				t.Fatal(err)
			}
			flip(b)
			if i%7 == 0 {
				versions, then = append(versions, y), append(then, whole(y))
			}
			x = y
		}
	}
	for i, y := range versions {
		if whole(y) != then[i] {
			t.Errorf("the version %d has changed: %s", i, told(y))
		}
	}
}

// TestNewPairsAreApart: the key and the value of a new pair do not share memory
// with each other or with the session.
func TestNewPairsAreApart(t *testing.T) {
	for _, c := range []api.Command{put(5, 1, "a", "1"), put(5, 300, filled(64, 1), filled(1024, 2)), put(5, 2, "same", "same")} {
		x, _, err := command.Apply(none, []byte(spelled(c)))
		if err != nil || len(x.Kids) != 2 {
			t.Fatalf("%s: %s, %v", toldCommand(c), told(x), err)
		}
		lists := [][]byte{x.Key, x.Value, x.Kids[0].Key, x.Kids[0].Value}
		for i := range lists {
			before := wholeOthers(lists, i)
			flip(lists[i])
			if wholeOthers(lists, i) != before {
				t.Errorf("%s: the list %d shares memory with another one", toldCommand(c), i)
			}
			flip(lists[i])
		}
	}
}

// wholeOthers tells all lists but one.
func wholeOthers(lists [][]byte, but int) string {
	out := ""
	for i, b := range lists {
		if i != but {
			out += wholeBytes(b)
		}
	}
	return out
}

func TestLookLeavesItsArguments(t *testing.T) {
	trees := append(amiss()[:20], named{"nothing", none}, named{"an empty value", leaf("ua", "")}, named{"one key", leaf("ua", "1")}, named{"many pairs", with(t, grown(t, 30), "ua", "1")})
	for _, x := range trees {
		for _, key := range []string{"", "a", "zz", filled(64, 1), filled(65, 1), filled(3, 3)} {
			y, b := roomy(x.t), roomyBytes(key)
			before, beforeBytes := whole(y), wholeBytes(b)
			value, _, _ := command.Look(y, b)
			if whole(y) != before || wholeBytes(b) != beforeBytes {
				t.Errorf("Look of %q has changed %s or the key", key, x.name)
			}
			was := string(value)
			flip(value)
			if whole(y) != before || wholeBytes(b) != beforeBytes {
				t.Errorf("the value of %q shares memory with %s", key, x.name)
			}
			flip(value)
			scrub(y)
			flip(b)
			if string(value) != was {
				t.Errorf("the value of %q changed with %s", key, x.name)
			}
		}
	}
}

func TestKeyLeavesItsArgument(t *testing.T) {
	for n := range 70 {
		s := filled(n, 1)
		b := roomyBytes(s)
		before := wholeBytes(b)
		key, again := command.Key(b), command.Key(b)
		if wholeBytes(b) != before {
			t.Errorf("Key has changed %q", s)
		}
		flip(key)
		if wholeBytes(b) != before || string(again) != "u"+s {
			t.Errorf("Key of %q shares memory", s)
		}
		flip(b)
		if string(again) != "u"+s {
			t.Errorf("Key of %q changed with it", s)
		}
	}
}

// TestNothingIsRetained: calls answer by their arguments alone, whatever became
// of those of the calls before.
func TestNothingIsRetained(t *testing.T) {
	x := grown(t, 12)
	for range 3 {
		for _, c := range manyCommands() {
			s := spelled(c)
			y, b := roomy(x), roomyBytes(s)
			z, _, err := command.Apply(y, b)
			if err != nil {
				t.Fatal(err)
			}
			scrub(z)
			scrub(y)
			flip(b)
			mustAgreeOnApply(t, "a tree after another one", x, s)
			mustAgreeOnApply(t, "nothing after a tree", none, s)
			key := roomyBytes(string(c.Key))
			value, _, err := command.Look(x, key)
			if err != nil {
				t.Fatal(err)
			}
			flip(value)
			flip(key)
			mustAgreeOnLook(t, "a key after another one", x, string(c.Key))
			mustAgreeOnCommand(t, c)
			written, _ := command.Write(c)
			flip(written)
			read, _ := command.Read([]byte(s))
			flip(read.Key)
			flip(read.Value)
			mustAgreeOnBytes(t, "bytes after others", s)
			flip(command.Key(c.Key))
			mustKey(t, c.Key, "u"+string(c.Key))
		}
	}
}
