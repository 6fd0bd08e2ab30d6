package command_test

import (
	"bytes"
	"errors"
	"fmt"
	"math"
	"slices"
	"strings"
	"testing"

	"heartwood/api"
	"heartwood/avl"
	"heartwood/command"
)

var none = api.Tree{}

func node(l api.Tree, key, value string, r api.Tree) api.Tree {
	return api.Tree{Kind: api.TreeNode, Key: []byte(key), Value: []byte(value), Kids: []api.Tree{l, r}}
}

func leaf(key, value string) api.Tree { return node(none, key, value, none) }

// filled returns n bytes without a short period, so that a mixed-up order shows.
func filled(n int, seed uint32) string {
	out := make([]byte, n)
	x := seed*2654435761 + 1
	for i := range out {
		x = x*1664525 + 1013904223
		out[i] = byte(x >> 24)
	}
	return string(out)
}

func put(client, seq uint64, key, value string) api.Command {
	return api.Command{Client: client, Seq: seq, Op: 1, Key: []byte(key), Value: []byte(value)}
}

func del(client, seq uint64, key string) api.Command {
	return api.Command{Client: client, Seq: seq, Op: 2, Key: []byte(key)}
}

// The calls by the document's words.

// number is the encoding of a number.
func number(v uint64) string {
	if v <= 247 {
		return string([]byte{byte(v)})
	}
	digits := ""
	for ; v > 0; v /= 256 {
		digits = string([]byte{byte(v % 256)}) + digits
	}
	return string([]byte{247 + byte(len(digits))}) + digits
}

// field is the encoding of a byte string.
func field(b string) string { return number(uint64(len(b))) + b }

// spelled is the encoding of a command.
func spelled(c api.Command) string {
	return number(c.Client) + number(c.Seq) + string([]byte{byte(c.Op)}) + field(string(c.Key)) + field(string(c.Value))
}

// spelledIs is the definition of a command.
func spelledIs(c api.Command) bool {
	put := c.Op == 1 && len(c.Value) <= 1024
	del := c.Op == 2 && len(c.Value) == 0
	return (put || del) && len(c.Key) <= 64
}

// spelledWrite is P12.1.
func spelledWrite(c api.Command) (string, error) {
	if !spelledIs(c) {
		return "", api.ErrArg
	}
	return spelled(c), nil
}

// takenNumber reads a number at the front of b, in its one encoding alone.
func takenNumber(b string) (v uint64, rest string, ok bool) {
	if b == "" {
		return 0, "", false
	}
	n := 0
	if b[0] > 247 {
		n = int(b[0]) - 247
	}
	if len(b) < 1+n {
		return 0, "", false
	}
	v = uint64(b[0])
	if n > 0 {
		v = 0
	}
	for _, d := range []byte(b[1 : 1+n]) {
		v = v*256 + uint64(d)
	}
	return v, b[1+n:], number(v) == b[:1+n]
}

// takenField reads a byte string at the front of b.
func takenField(b string, most uint64) (value, rest string, ok bool) {
	n, b, ok := takenNumber(b)
	if !ok || n > most || n > uint64(len(b)) {
		return "", "", false
	}
	return b[:n], b[n:], true
}

// parsed reads a command at the front of b.
func parsed(b string) (c api.Command, rest string, ok bool) {
	client, b, ok := takenNumber(b)
	if !ok {
		return c, "", false
	}
	seq, b, ok := takenNumber(b)
	if !ok || b == "" {
		return c, "", false
	}
	op, b := int(b[0]), b[1:]
	key, b, ok := takenField(b, 64)
	if !ok {
		return c, "", false
	}
	value, b, ok := takenField(b, 1024)
	c = api.Command{Client: client, Seq: seq, Op: op, Key: []byte(key), Value: []byte(value)}
	return c, b, ok && spelledIs(c)
}

// spelledRead is P12.1.
func spelledRead(b string) (api.Command, error) {
	c, rest, ok := parsed(b)
	if !ok {
		return api.Command{}, api.ErrForm
	}
	if rest != "" {
		return api.Command{}, api.ErrMore
	}
	return c, nil
}

// sessionKey is the key of a client's session.
func sessionKey(client uint64) string {
	key := ""
	for range 8 {
		key = string([]byte{byte(client % 256)}) + key
		client /= 256
	}
	return "s" + key
}

// sessionOf is the session that a value is, if it is one.
func sessionOf(value string) (seq uint64, result api.Result, ok bool) {
	seq, rest, ok := takenNumber(value)
	if !ok || len(rest) != 1 || rest[0] < 1 || rest[0] > 4 {
		return 0, 0, false
	}
	return seq, api.Result(rest[0]), true
}

// found looks through all nodes of a full tree, in any order of the keys.
func found(x api.Tree, key string) (string, bool) {
	if len(x.Kids) != 2 {
		return "", false
	}
	if string(x.Key) == key {
		return string(x.Value), true
	}
	for _, kid := range x.Kids {
		if value, ok := found(kid, key); ok {
			return value, true
		}
	}
	return "", false
}

// with is a balanced tree after an insertion.
func with(t testing.TB, x api.Tree, key, value string) api.Tree {
	t.Helper()
	y, err := avl.Put(x, []byte(key), []byte(value))
	if err != nil {
		t.Fatalf("with %q: %v", key, err)
	}
	return y
}

// without is a balanced tree after a deletion.
func without(t testing.TB, x api.Tree, key string) api.Tree {
	t.Helper()
	y, _, err := avl.Delete(x, []byte(key))
	if err != nil {
		t.Fatalf("without %q: %v", key, err)
	}
	return y
}

// spelledDo executes a command.
func spelledDo(t testing.TB, x api.Tree, c api.Command) (api.Tree, api.Result) {
	t.Helper()
	key := "u" + string(c.Key)
	_, is := found(x, key)
	result := map[bool]api.Result{false: api.ResMissing, true: api.ResGone}[is]
	y := without(t, x, key)
	if c.Op == 1 {
		result = map[bool]api.Result{false: api.ResNew, true: api.ResOver}[is]
		y = with(t, x, key, string(c.Value))
	}
	return with(t, y, sessionKey(c.Client), number(c.Seq)+string([]byte{byte(result)})), result
}

// spelledApply is P12.2.
func spelledApply(t testing.TB, x api.Tree, b string) (api.Tree, api.Result, error) {
	t.Helper()
	if !avl.Is(x) {
		return none, 0, api.ErrForm
	}
	c, err := spelledRead(b)
	if err != nil {
		return x, api.ResNone, nil
	}
	value, _ := found(x, sessionKey(c.Client))
	if seq, result, ok := sessionOf(value); ok && seq > c.Seq {
		return x, api.ResOld, nil
	} else if ok && seq == c.Seq {
		return x, result, nil
	}
	y, result := spelledDo(t, x, c)
	return y, result, nil
}

// spelledLook is P12.3.
func spelledLook(x api.Tree, key string) (string, bool, error) {
	if !avl.Is(x) {
		return "", false, api.ErrForm
	}
	if len(key) > 64 {
		return "", false, nil
	}
	value, is := found(x, "u"+key)
	return value, is, nil
}

// same compares trees by what they say: nil and empty are one.
func same(a, b api.Tree) bool {
	return a.Kind == b.Kind && bytes.Equal(a.Key, b.Key) && bytes.Equal(a.Value, b.Value) &&
		bytes.Equal(a.Digest, b.Digest) && slices.EqualFunc(a.Kids, b.Kids, same)
}

func sameCommand(a, b api.Command) bool {
	return a.Client == b.Client && a.Seq == b.Seq && a.Op == b.Op && bytes.Equal(a.Key, b.Key) && bytes.Equal(a.Value, b.Value)
}

// told draws what lies within a few levels of a tree.
func told(x api.Tree) string {
	var draw func(x api.Tree, levels int) string
	draw = func(x api.Tree, levels int) string {
		if x.Kind == api.TreeNone && len(x.Kids) == 0 {
			return ""
		}
		if levels == 0 || len(x.Kids) != 2 {
			return fmt.Sprintf("(%d with %d)", x.Kind, len(x.Kids))
		}
		return fmt.Sprintf("(%s%.12q=%.12q%s)", draw(x.Kids[0], levels-1), x.Key, x.Value, draw(x.Kids[1], levels-1))
	}
	return "(" + draw(x, 6) + ")"
}

func toldCommand(c api.Command) string {
	return fmt.Sprintf("%d of client %d seq %d, key %d %.12q, value %d %.12q", c.Op, c.Client, c.Seq, len(c.Key), c.Key, len(c.Value), c.Value)
}

// short is the beginning of bytes.
func short(b string) string { return fmt.Sprintf("%d bytes %.24x", len(b), b) }

// plain wants an error itself, a plain Code (or nil), and not one within a Spot.
func plain(t testing.TB, what string, err, want error) {
	t.Helper()
	var spot *api.Spot
	if err != want || errors.As(err, &spot) {
		t.Errorf("%s: %v (%T), want %v", what, err, err, want)
	}
	var code api.Code
	if want != nil && (!errors.Is(err, want) || !errors.As(err, &code) || code != want) {
		t.Errorf("%s: %v is no Code %v", what, err, want)
	}
}

// mustWrite holds Write against bytes, or against the error.
func mustWrite(t testing.TB, c api.Command, want string, wantErr error) {
	t.Helper()
	got, err := command.Write(c)
	plain(t, "Write of "+toldCommand(c), err, wantErr)
	if string(got) != want {
		t.Errorf("Write of %s = %s, want %s", toldCommand(c), short(string(got)), short(want))
	}
}

// mustRead holds Read against a command, or against the error.
func mustRead(t testing.TB, what, b string, want api.Command, wantErr error) {
	t.Helper()
	got, err := command.Read([]byte(b))
	plain(t, fmt.Sprintf("Read of %s (%s)", what, short(b)), err, wantErr)
	if !sameCommand(got, want) {
		t.Errorf("Read of %s (%s) = %s, want %s", what, short(b), toldCommand(got), toldCommand(want))
	}
}

// mustNotRead wants the error alone.
func mustNotRead(t testing.TB, what, b string, want error) {
	t.Helper()
	mustRead(t, what, b, api.Command{}, want)
}

// mustMatch wants bytes for a command, and the command for the bytes.
func mustMatch(t testing.TB, c api.Command, b string) {
	t.Helper()
	mustWrite(t, c, b, nil)
	mustRead(t, toldCommand(c), b, c, nil)
}

// mustAgreeOnCommand holds Write, and Read of what it writes, against the
// document's words.
func mustAgreeOnCommand(t testing.TB, c api.Command) {
	t.Helper()
	want, err := spelledWrite(c)
	mustWrite(t, c, want, err)
	if err == nil {
		mustRead(t, toldCommand(c), want, c, nil)
	}
}

// mustAgreeOnBytes holds Read against the document's words.
func mustAgreeOnBytes(t testing.TB, what, b string) error {
	t.Helper()
	want, err := spelledRead(b)
	mustRead(t, what, b, want, err)
	return err
}

// mustApply holds Apply against a tree and a result.
func mustApply(t testing.TB, what string, x api.Tree, b string, want api.Tree, result api.Result) {
	t.Helper()
	got, r, err := command.Apply(x, []byte(b))
	if err != nil || r != result || !same(got, want) {
		t.Errorf("Apply, %s: %s to %s = %s, %d, %v, want %s, %d", what, short(b), told(x), told(got), r, err, told(want), result)
	}
}

// mustNotApply wants ErrForm alone.
func mustNotApply(t testing.TB, what string, x api.Tree, b string) {
	t.Helper()
	got, r, err := command.Apply(x, []byte(b))
	plain(t, fmt.Sprintf("Apply to %s of %s", what, short(b)), err, api.ErrForm)
	if !same(got, none) || r != api.ResNone {
		t.Errorf("Apply to %s of %s = %s, %d beside the error", what, short(b), told(got), r)
	}
}

// mustAgreeOnApply holds Apply against the document's words, and returns what
// came of it.
func mustAgreeOnApply(t testing.TB, what string, x api.Tree, b string) (api.Tree, api.Result) {
	t.Helper()
	want, result, err := spelledApply(t, x, b)
	if err != nil {
		mustNotApply(t, what, x, b)
		return none, 0
	}
	mustApply(t, what, x, b, want, result)
	return want, result
}

// mustLook holds Look against a value.
func mustLook(t testing.TB, what string, x api.Tree, key, value string) {
	t.Helper()
	if got, is, err := command.Look(x, []byte(key)); string(got) != value || !is || err != nil {
		t.Errorf("%s: Look of %.40q in %s = %.40q, %v, %v, want %.40q", what, key, told(x), got, is, err, value)
	}
}

// mustMiss wants no bytes and no error.
func mustMiss(t testing.TB, what string, x api.Tree, key string) {
	t.Helper()
	if got, is, err := command.Look(x, []byte(key)); len(got) != 0 || is || err != nil {
		t.Errorf("%s: Look of %.40q in %s = %.40q, %v, %v", what, key, told(x), got, is, err)
	}
}

// mustAgreeOnLook holds Look against the document's words.
func mustAgreeOnLook(t testing.TB, what string, x api.Tree, key string) {
	t.Helper()
	value, is, err := spelledLook(x, key)
	switch {
	case is:
		mustLook(t, what, x, key, value)
	case err == nil:
		mustMiss(t, what, x, key)
	default:
		got, is, err := command.Look(x, []byte(key))
		plain(t, fmt.Sprintf("Look of %.40q in %s", key, what), err, api.ErrForm)
		if len(got) != 0 || is {
			t.Errorf("Look of %.40q in %s = %.40q, %v beside the error", key, what, got, is)
		}
	}
}

// edges are the numbers where the encoding grows by a byte, those next to them,
// the least and the largest one.
func edges() []uint64 {
	out := []uint64{0, 1, 2, 5, 127, 128, 246, 247, 248, 249, 255, 256, math.MaxInt64, math.MaxInt64 + 1, 1 << 60, 1<<60 + 1}
	for n := 2; n < 8; n++ {
		out = append(out, 1<<(8*n)-1, 1<<(8*n), 1<<(8*n)+1)
	}
	return append(out, math.MaxUint64-1, math.MaxUint64)
}

// sampleCommands are commands of all kinds.
func sampleCommands() []api.Command {
	return []api.Command{
		put(5, 1, "a", "1"), del(5, 1, "a"), put(0, 0, "", ""), del(0, 0, ""), put(0, 0, "\x00", "\x00"),
		put(1, 247, "k", ""), put(248, 2, "", "v"), put(1, math.MaxUint64, "key", "value"), del(math.MaxUint64, 1<<60, "key"),
		put(256, 65536, filled(64, 1), filled(1024, 2)), del(7, 8, filled(64, 3)), put(3, 4, filled(63, 4), filled(247, 5)),
		put(3, 4, "s", filled(248, 6)), put(3, 4, "u", filled(256, 7)), put(3, 4, sessionKey(3), "\x04\x01"), put(1, 1, "\x01\x02", "\x02\x01"),
	}
}

type named struct {
	name string
	t    api.Tree
}

// grown has the pairs of a few users and sessions.
func grown(t testing.TB, n int) api.Tree {
	t.Helper()
	x := none
	for i := range n {
		x = with(t, x, "u"+filled(i%5, uint32(i)), filled(i%20, uint32(i)))
		x = with(t, x, sessionKey(uint64(i%7)), number(uint64(i))+string([]byte{byte(1 + i%4)}))
	}
	return x
}

// stacked lays so many nodes above a tree.
func stacked(n int, x api.Tree) api.Tree {
	for i := range n {
		key := fmt.Sprintf("u%02d", 99-i)
		if i%2 == 0 {
			x = node(none, key, "v", x)
		} else {
			x = node(x, key, "v", none)
		}
	}
	return x
}

// amiss are trees that are not balanced. A user's key and a session stand in
// most of them, to be found.
func amiss() []named {
	session, a := leaf(sessionKey(5), "\x01\x01"), leaf("ua", "1")
	cut := api.Tree{Kind: api.TreeCut, Digest: []byte(filled(32, 1))}
	dark := api.Tree{Kind: api.TreeDark, Key: []byte("ub"), Digest: []byte(filled(32, 2)), Kids: []api.Tree{a, none}}
	with3 := node(session, "ua", "1", none)
	with3.Kids = append(with3.Kids, none)
	with1 := node(session, "ua", "1", none)
	with1.Kids = with1.Kids[:1]
	out := []named{
		{"two keys in the other order", node(a, sessionKey(5), "\x01\x01", none)},
		{"one key twice", node(none, "ua", "1", a)},
		{"a key further below that is too great", node(node(none, "ua", "1", leaf("uc", "3")), "ub", "2", leaf("ud", "4"))},
		{"a left Kid that is two deeper", node(node(session, "ua", "1", none), "ub", "2", none)},
		{"a right Kid that is two deeper", node(none, sessionKey(5), "\x01\x01", node(none, "ua", "1", leaf("ub", "2")))},
		{"a Kid that is uneven further below", node(node(none, "u0", "", node(none, "u1", "", leaf("u2", ""))), "ua", "1", node(node(leaf("ub", ""), "uc", "", none), "ud", "", leaf("ue", "")))},
		{"a chain of ten", chain(10)},
		{"a TreeCut", cut},
		{"a TreeCut on the left", node(cut, "ua", "1", none)},
		{"a TreeCut on the right", node(session, "ua", "1", cut)},
		{"a TreeDark", dark},
		{"a TreeDark on the right", node(session, "u0", "1", dark)},
		{"a TreeCut without a digest", api.Tree{Kind: api.TreeCut}},
		{"a node without Kids", api.Tree{Kind: api.TreeNode, Key: []byte("ua"), Value: []byte("1")}},
		{"a node with one Kid", with1},
		{"a node with three Kids", with3},
		{"a node with a digest", api.Tree{Kind: api.TreeNode, Key: []byte("ua"), Digest: []byte("d"), Kids: []api.Tree{none, none}}},
		{"nothing with a key", api.Tree{Key: []byte("ua")}},
		{"nothing with a value", api.Tree{Value: []byte("1")}},
		{"nothing with a digest", api.Tree{Digest: []byte("1")}},
		{"nothing with Kids", api.Tree{Kids: []api.Tree{none, none}}},
		{"nothing with a key below", node(session, "ua", "1", api.Tree{Key: []byte("ub")})},
		{"a kind of -1", api.Tree{Kind: -1, Key: []byte("ua"), Kids: []api.Tree{none, none}}},
		{"a kind of 4", node(session, "ua", "1", api.Tree{Kind: 4})},
		{"a kind of 257", api.Tree{Kind: 257, Key: []byte("ua"), Kids: []api.Tree{none, none}}},
		{"a key of 81 bytes", node(session, "ua", "1", leaf("u"+filled(80, 3), "2"))},
		{"a value of 1025 bytes", node(session, "ua", filled(1025, 4), none)},
		{"64 levels", stacked(64, none)},
		{"65 levels", stacked(65, none)},
		{"1000 levels", stacked(1000, none)},
	}
	return out
}

// chain is a chain of keys that rise.
func chain(n int) api.Tree {
	x := none
	for i := range n {
		x = node(none, fmt.Sprintf("u%03d", 999-i), strings.Repeat("v", i), x)
	}
	return x
}

// TestAmissTrees: what is amiss in the tables is what the calls are to refuse.
func TestAmissTrees(t *testing.T) {
	for _, x := range amiss() {
		if avl.Is(x.t) {
			t.Errorf("%s is balanced", x.name)
		}
	}
	if !avl.Is(grown(t, 50)) {
		t.Error("no balanced tree")
	}
}
