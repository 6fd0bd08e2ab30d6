package command_test

import (
	"testing"

	"heartwood/api"
	"heartwood/avl"
)

// P12.1 to P12.5 on anything.

// bytesLeft hands out bytes one by one, and 0 when there are none left.
type bytesLeft struct{ b []byte }

func (l *bytesLeft) next() int {
	if len(l.b) == 0 {
		return 0
	}
	n := int(l.b[0])
	l.b = l.b[1:]
	return n
}

// text is a short byte string, often one that comes again.
func (l *bytesLeft) text() string {
	c := l.next()
	switch {
	case c < 128:
		return filled(c%5, uint32(c/5%3))
	case c < 192:
		return filled(c-118, 1)
	case c < 224:
		return sessionKey(uint64(c % 4))
	}
	return string(l.b[:min(len(l.b), c%16)])
}

// number is a number that often comes again, or an edge.
func (l *bytesLeft) number() uint64 {
	c := l.next()
	if c < 200 {
		return uint64(c % 4)
	}
	return edges()[c%len(edges())]
}

// command is any command, nearly always a good one.
func (l *bytesLeft) command() api.Command {
	c := put(l.number(), l.number(), l.text(), "")
	switch kind := l.next(); {
	case kind < 120:
		c.Value = []byte(l.text())
	case kind < 230:
		c.Op = 2
	case kind < 245:
		c.Value = []byte(filled(1000+l.next(), 1))
	default:
		c.Op, c.Value = l.next()-3, []byte(l.text())
	}
	return c
}

// pair is one of a user's, a session or something like it, or anything.
func (l *bytesLeft) pair() (key, value string) {
	switch c := l.next(); {
	case c < 120:
		return "u" + l.text(), l.text()
	case c < 200:
		return sessionKey(l.number()), number(l.number()) + string([]byte{byte(l.next() % 6)})
	case c < 230:
		return sessionKey(l.number()), l.text()
	}
	return l.text(), l.text()
}

// tree is a balanced tree, or sometimes one that is amiss.
func (l *bytesLeft) tree(t testing.TB) api.Tree {
	x := none
	c := l.next()
	for range c % 12 {
		key, value := l.pair()
		x = with(t, x, key, value)
	}
	switch {
	case c < 230:
		return x
	case c < 240:
		all := amiss()
		return all[l.next()%len(all)].t
	case c < 245:
		key, value := l.pair()
		return node(x, key, value, leaf("z", "z"))
	}
	x.Kind = l.next()%6 - 1
	return x
}

// mustAgreeOnAnything holds all calls on what bytes make against the document's
// words.
func mustAgreeOnAnything(t testing.TB, b []byte) {
	t.Helper()
	mustAgreeOnBytes(t, "any bytes", string(b))
	l := &bytesLeft{b}
	x := l.tree(t)
	before := whole(x)
	mustAgreeOnApply(t, "any bytes", x, string(b))
	mustAgreeOnApply(t, "any bytes", x, string(l.b))
	mustAgreeOnLook(t, "any key", x, string(b))
	mustKey(t, b, "u"+string(b))
	for y := x; len(l.b) > 0 && !t.Failed(); {
		c := l.command()
		mustAgreeOnCommand(t, c)
		mustAgreeOnLook(t, "any tree", y, string(c.Key))
		s := spelled(c) + map[bool]string{true: "\x00", false: ""}[l.next() > 250]
		z, r := mustAgreeOnApply(t, "any command", y, s)
		if !avl.Is(x) {
			break
		}
		if !avl.Is(z) {
			t.Errorf("%s is not balanced", told(z))
		}
		if r >= api.ResNew && r <= api.ResMissing {
			mustStay(t, "any command again", z, c, r)
		}
		mustAgreeOnLook(t, "any tree", z, string(c.Key))
		y = z
	}
	if whole(x) != before {
		t.Error("the tree was modified")
	}
}

func TestAllCallsOnAnything(t *testing.T) {
	for i := range 3000 {
		mustAgreeOnAnything(t, []byte(filled(i%200, uint32(i))))
	}
}

// FuzzRead holds Read against the document's words.
func FuzzRead(f *testing.F) {
	for _, b := range notCommands() {
		f.Add([]byte(b))
	}
	for _, c := range sampleCommands() {
		f.Add([]byte(spelled(c)))
	}
	f.Fuzz(func(t *testing.T, b []byte) {
		if err := mustAgreeOnBytes(t, "any bytes", string(b)); err == nil {
			mustAgreeOnCommand(t, parsedCommand(string(b)))
		}
	})
}

// FuzzAllCalls holds all calls against the document's words.
func FuzzAllCalls(f *testing.F) {
	f.Add([]byte{})
	f.Add([]byte("\x02\x01\x09\x09\x79\x01\x05\x02\x05\x01\x09\x01\x09\x00"))
	f.Add([]byte("\xe7\x03\x05\x01\x01\x01a\x011"))
	for i := range 20 {
		f.Add([]byte(filled(10*i, uint32(i))))
	}
	f.Fuzz(func(t *testing.T, b []byte) {
		mustAgreeOnAnything(t, b[:min(len(b), 600)])
	})
}
