package command_test

import (
	"fmt"
	"maps"
	"math/rand"
	"slices"
	"testing"

	"heartwood/api"
	"heartwood/avl"
	"heartwood/command"
)

// P12.5.

// model is what a store of commands is by the words alone: users' pairs and
// clients' last numbers and results, with no tree, and so apart from each other.
type model struct {
	pairs map[string]string
	last  map[uint64]stamp
}

type stamp struct {
	seq    uint64
	result api.Result
}

func newModel() model { return model{map[string]string{}, map[uint64]stamp{}} }

// do is a command's effect on a model.
func (m model) do(c api.Command) api.Result {
	if last, is := m.last[c.Client]; is && c.Seq <= last.seq {
		if c.Seq < last.seq {
			return api.ResOld
		}
		return last.result
	}
	_, is := m.pairs[string(c.Key)]
	result := api.ResMissing
	switch {
	case c.Op == 1 && is:
		result = api.ResOver
	case c.Op == 1:
		result = api.ResNew
	case is:
		result = api.ResGone
	}
	if delete(m.pairs, string(c.Key)); c.Op == 1 {
		m.pairs[string(c.Key)] = string(c.Value)
	}
	m.last[c.Client] = stamp{c.Seq, result}
	return result
}

// mustBe wants a tree to have what a model has, and nothing else.
func (m model) mustBe(t testing.TB, what string, x api.Tree) {
	t.Helper()
	want := map[string]string{}
	for key, value := range m.pairs {
		want["u"+key] = value
		mustLook(t, what, x, key, value)
	}
	for client, last := range m.last {
		want[sessionKey(client)] = number(last.seq) + string([]byte{byte(last.result)})
	}
	if got := pairs(x); !maps.Equal(got, want) {
		t.Errorf("%s: the pairs are %q, want %q", what, got, want)
	}
	if !avl.Is(x) {
		t.Errorf("%s: %s is not balanced", what, told(x))
	}
}

// mustRun applies commands one by one, to a tree and to a model.
func mustRun(t testing.TB, what string, x api.Tree, m model, list ...api.Command) api.Tree {
	t.Helper()
	for _, c := range list {
		want := m.do(c)
		y, r, err := command.Apply(x, []byte(spelled(c)))
		if err != nil || r != want {
			t.Fatalf("%s: %s to %s = %d, %v, want %d", what, toldCommand(c), told(x), r, err, want)
		}
		x = y
	}
	return x
}

// mustRepeat applies a command that was applied before. It changes nothing.
func mustRepeat(t testing.TB, what string, x api.Tree, c api.Command, result api.Result) {
	t.Helper()
	for range 3 {
		mustStay(t, what, x, c, result)
	}
}

// TestRepeated: once, twice and more, at once.
func TestRepeated(t *testing.T) {
	x, m := none, newModel()
	for round := range uint64(4) {
		for _, c := range sampleCommands() {
			c.Client += round % 2
			c.Seq += 10 * round
			was := m.do(c)
			y, r, err := command.Apply(x, []byte(spelled(c)))
			if err != nil || r != was {
				t.Fatalf("%s = %d, %v, want %d", toldCommand(c), r, err, was)
			}
			mustRepeat(t, "at once", y, c, was)
			m.mustBe(t, "at once", y)
			x = y
		}
	}
}

// TestRepeatedLater: other clients' commands lie between, also those that undo
// what the command did.
func TestRepeatedLater(t *testing.T) {
	for _, c := range []api.Command{put(5, 7, "a", "1"), put(5, 7, "b", "1"), del(5, 7, "a"), del(5, 7, "b")} {
		x, m := leaf("ua", "0"), newModel()
		m.pairs["a"] = "0"
		was := m.do(c)
		x = mustDo(t, x, c, was)
		for i := range uint64(20) {
			for _, key := range []string{"a", "b", "", sessionKey(5)} {
				for _, d := range []api.Command{put(6+i, 1, key, "2"), del(6+i, 2, key), put(4, 10*i, key, "3"), del(5<<56, 10*i+5, key)} {
					x = mustRun(t, "others", x, m, d)
					mustRepeat(t, "later", x, c, was)
				}
			}
		}
		m.mustBe(t, "later", x)
		x = mustRun(t, "a later command", x, m, put(5, 8, "c", "3"))
		mustRepeat(t, "after a later command", x, c, api.ResOld)
		m.mustBe(t, "after a later command", x)
	}
}

// TestLatecomers: whatever of a client's commands arrives again, and in which
// order, changes nothing after its last one.
func TestLatecomers(t *testing.T) {
	var list []api.Command
	for i := range uint64(12) {
		list = append(list, put(5, 2*i, fmt.Sprint("k", i%3), fmt.Sprint(i)), del(5, 2*i+1, fmt.Sprint("k", i%4)))
	}
	m := newModel()
	x := mustRun(t, "all in order", none, m, list...)
	for i, c := range list {
		want := api.ResOld
		if i == len(list)-1 {
			want = m.last[5].result
		}
		mustRepeat(t, "a latecomer", x, c, want)
	}
	again := none
	for i := range list {
		again = mustRun(t, "all beginnings", again, newModelOf(list[:i]), list[i])
		for _, c := range list[:i] {
			mustStay(t, "a latecomer", again, c, api.ResOld)
		}
	}
	if !same(again, x) {
		t.Errorf("with latecomers: %s, want %s", told(again), told(x))
	}
}

// newModelOf is the model after commands.
func newModelOf(list []api.Command) model {
	m := newModel()
	for _, c := range list {
		m.do(c)
	}
	return m
}

// TestOthersKeysStay: a command touches its own key and session, nothing else.
func TestOthersKeysStay(t *testing.T) {
	x, m := none, newModel()
	keys := []string{"", "\x00", "a", "aa", "ab", "b", "s", "u", "us", sessionKey(5), sessionKey(6), "u" + sessionKey(5), sessionKey(5)[1:], filled(63, 1), filled(64, 1)}
	for i, key := range keys {
		x = mustRun(t, "to begin with", x, m, put(uint64(i%3), uint64(i+1), key, "first of "+key))
	}
	m.mustBe(t, "to begin with", x)
	seq := uint64(100)
	for _, key := range keys {
		for _, c := range []api.Command{put(5, seq, key, "second of "+key), del(6, seq, key), del(5, seq+1, key), put(7, seq, key, "")} {
			before, beforeLast := maps.Clone(m.pairs), maps.Clone(m.last)
			x = mustRun(t, "a command", x, m, c)
			m.mustBe(t, "a command", x)
			delete(before, string(c.Key))
			after, afterLast := maps.Clone(m.pairs), maps.Clone(m.last)
			delete(after, string(c.Key))
			delete(beforeLast, c.Client)
			delete(afterLast, c.Client)
			if !maps.Equal(before, after) || !maps.Equal(beforeLast, afterLast) {
				t.Error("the model is wrong")
			}
		}
		seq += 10
	}
}

// TestUserKeysLikeSessions: what a user puts, or deletes, under bytes that are
// a session's key, or the end of one, does not make or end a session.
func TestUserKeysLikeSessions(t *testing.T) {
	keys := []string{sessionKey(5), sessionKey(5)[1:], "s", "u" + sessionKey(5), "s5", "\x05", "\x00\x00\x00\x00\x00\x00\x00\x05"}
	x, m := none, newModel()
	for _, key := range keys {
		x = mustRun(t, "a forged session", x, m, put(5, 10, "a", "1"), put(6, 1, key, "\xff\xff\xff\xff\xff\xff\xff\xff\xff\x04"), put(6, 2, key, "\x0a\x03"))
		mustRepeat(t, "with a forged session", x, put(5, 10, "a", "1"), m.last[5].result)
		mustRepeat(t, "with a forged session", x, put(5, 9, "a", "1"), api.ResOld)
		x = mustRun(t, "a forged session", x, m, put(5, 11, "a", "2"), del(6, 3, key), del(7, 1, key))
		mustRepeat(t, "without a forged session", x, put(5, 11, "a", "1"), m.last[5].result)
		m.mustBe(t, "a forged session", x)
		x, m = none, newModel()
		x = mustRun(t, "a client of its own session", x, m, put(5, 3, key, "\x09\x02"), put(5, 4, key, "\x09\x02"), del(5, 5, key), del(5, 6, key))
		m.mustBe(t, "a client of its own session", x)
	}
}

// TestAllShortScripts: all scripts of a few commands of two clients.
func TestAllShortScripts(t *testing.T) {
	var some []api.Command
	for client := uint64(5); client <= 6; client++ {
		for seq := uint64(1); seq <= 2; seq++ {
			some = append(some, put(client, seq, "a", "x"), put(client, seq, "a", "y"), del(client, seq, "a"), put(client, seq, "b", "z"))
		}
	}
	var walk func(x api.Tree, m model, left int)
	walk = func(x api.Tree, m model, left int) {
		m.mustBe(t, "a short script", x)
		if left == 0 || t.Failed() {
			return
		}
		for _, c := range some {
			n := model{maps.Clone(m.pairs), maps.Clone(m.last)}
			walk(mustRun(t, "a short script", x, n, c), n, left-1)
		}
	}
	walk(none, newModel(), 4)
}

// TestOrderOfOtherClients: commands of clients that touch other keys may come
// in any order. What the tree has is the same.
func TestOrderOfOtherClients(t *testing.T) {
	r := rand.New(rand.NewSource(5))
	var list []api.Command
	for i := range uint64(9) {
		list = append(list, put(i, i, fmt.Sprint(i), "v"))
	}
	want := pairs(mustRun(t, "in order", none, newModel(), list...))
	for range 100 {
		mixed := slices.Clone(list)
		r.Shuffle(len(mixed), func(i, j int) { mixed[i], mixed[j] = mixed[j], mixed[i] })
		mixed = append(mixed, mixed[:r.Intn(9)]...)
		if got := pairs(mustRun(t, "mixed", none, newModel(), mixed...)); !maps.Equal(got, want) {
			t.Errorf("mixed: %q, want %q", got, want)
		}
	}
}

// TestDrawnScripts: long scripts with many repetitions, against the model.
func TestDrawnScripts(t *testing.T) {
	r := rand.New(rand.NewSource(12))
	for range 30 {
		x, m := none, newModel()
		var before []api.Command
		met := map[api.Result]int{}
		for i := range 300 {
			c := put(uint64(r.Intn(5)), uint64(i/10+r.Intn(3)), filled(r.Intn(4), uint32(r.Intn(9))), filled(r.Intn(300), r.Uint32()))
			if r.Intn(3) == 0 {
				c = del(c.Client, c.Seq, string(c.Key))
			}
			if len(before) > 0 && r.Intn(3) == 0 {
				c = before[len(before)-1-r.Intn(min(len(before), 6))]
			}
			before = append(before, c)
			y := mustRun(t, "a drawn script", x, m, c)
			_, result, _ := command.Apply(y, []byte(spelled(c)))
			mustStay(t, "a drawn script", y, c, result)
			met[result]++
			x = y
		}
		m.mustBe(t, "a drawn script", x)
		for result := api.ResNew; result <= api.ResOld; result++ {
			if met[result] == 0 {
				t.Errorf("the script met only %v", met)
			}
		}
	}
}

// TestManyPairs: a tree that grows and shrinks stays balanced.
func TestManyPairs(t *testing.T) {
	x, m := none, newModel()
	for i := range uint64(400) {
		x = mustRun(t, "up", x, m, put(i%50, i, fmt.Sprintf("%04d", i), fmt.Sprint(i)))
	}
	m.mustBe(t, "up", x)
	for i := range uint64(400) {
		x = mustRun(t, "down", x, m, del(i%50, 1000+i, fmt.Sprintf("%04d", (i*7)%400)))
		if i%40 == 0 {
			m.mustBe(t, "down", x)
		}
	}
	m.mustBe(t, "down", x)
	if len(m.pairs) != 0 || len(pairs(x)) != 50 {
		t.Errorf("%d users' pairs and %d in all", len(m.pairs), len(pairs(x)))
	}
}
