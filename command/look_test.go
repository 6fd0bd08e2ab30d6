package command_test

import (
	"fmt"
	"strings"
	"testing"

	"heartwood/api"
	"heartwood/command"
)

// P12.3.

// TestLookInTreesThatAreAmiss: the tree comes first, whatever the key is, and
// also where the key could be found.
func TestLookInTreesThatAreAmiss(t *testing.T) {
	for _, x := range amiss() {
		for _, key := range []string{"", "a", "b", "zz", "\x00", sessionKey(5), filled(64, 1), filled(65, 1), filled(80, 3), filled(1000, 1)} {
			got, is, err := command.Look(x.t, []byte(key))
			plain(t, fmt.Sprintf("Look of %.20q in %s", key, x.name), err, api.ErrForm)
			if len(got) != 0 || is {
				t.Errorf("Look of %.20q in %s = %q, %v beside the error", key, x.name, got, is)
			}
		}
		if got, is, err := command.Look(x.t, nil); len(got) != 0 || is || err != api.ErrForm {
			t.Errorf("Look of nil in %s = %q, %v, %v", x.name, got, is, err)
		}
	}
}

// TestLook: what there is and what there is not, with values of all lengths.
func TestLook(t *testing.T) {
	keys := []string{"", "\x00", "a", "aa", "ab", "b", "s", "u", "ua", "us", "\xff", sessionKey(5), filled(63, 1), filled(64, 1), filled(64, 2)}
	values := []string{"", "\x00", "1", "\x01\x01", filled(247, 3), filled(1024, 4)}
	for i, key := range keys {
		x := none
		for _, value := range values {
			x = with(t, x, "u"+key, value)
			mustLook(t, "one key", x, key, value)
			for j, other := range keys {
				if i != j {
					mustMiss(t, "another key", x, other)
				}
			}
			mustMiss(t, "a key that is longer", x, key+"\x00")
			mustMiss(t, "a key with the byte", x, "u"+key)
		}
	}
	x := none
	for i, key := range keys {
		x = with(t, x, "u"+key, values[i%len(values)])
	}
	for i, key := range keys {
		mustLook(t, "many keys", x, key, values[i%len(values)])
		mustMiss(t, "many keys", without(t, x, "u"+key), key)
	}
}

// TestLookInNothing: the empty tree has no key, nor has one of sessions alone.
func TestLookInNothing(t *testing.T) {
	sessions := with(t, leaf(sessionKey(5), "\x01\x01"), sessionKey(6), "\x02\x02")
	for _, x := range []api.Tree{none, sessions} {
		for _, key := range []string{"", "\x00", "a", "s", "u", "\x01\x01", sessionKey(5), sessionKey(5)[1:], filled(64, 1), filled(65, 1)} {
			mustMiss(t, "no user's key", x, key)
		}
	}
	if got, is, err := command.Look(none, nil); len(got) != 0 || is || err != nil {
		t.Errorf("Look of nil in nothing = %q, %v, %v", got, is, err)
	}
	if got, is, err := command.Look(leaf("u", "v"), nil); string(got) != "v" || !is || err != nil {
		t.Errorf("Look of nil = %q, %v, %v", got, is, err)
	}
}

// TestLookPastTheLimit: the tree may have keys that are too long for a user's.
func TestLookPastTheLimit(t *testing.T) {
	for n := 60; n <= 79; n++ {
		key := filled(n, 1)
		x := with(t, grown(t, 9), "u"+key, "long")
		if n <= 64 {
			mustLook(t, "a long key", x, key, "long")
		} else {
			mustMiss(t, "a key that is too long", x, key)
		}
		mustMiss(t, "a key that is cut", x, key[:n-1])
	}
	for _, n := range []int{65, 79, 80, 81, 128, 255, 256, 320, 1024, 1 << 16} {
		for _, x := range []api.Tree{none, leaf("u", "v"), leaf("u"+filled(64, 1), "v"), grown(t, 20)} {
			mustMiss(t, "a key that is too long", x, filled(n, 1))
			mustMiss(t, "a key that is too long", x, strings.Repeat("\x00", n))
		}
	}
}

// TestLookAndOtherPairs: neither a session nor any other pair is a user's.
func TestLookAndOtherPairs(t *testing.T) {
	x := none
	for _, key := range []string{"a", "t", "v", "s", sessionKey(5), sessionKey(0x6161616161616161), "s\x00", "ta", "va", ""} {
		x = with(t, x, key, "no user's")
	}
	for _, key := range []string{"a", "t", "v", "s", "u", "", sessionKey(5), sessionKey(5)[1:], "aaaaaaaa", "saaaaaaaa", "\x00", "ta", "va"} {
		mustMiss(t, "another pair", x, key)
		mustLook(t, "another pair", with(t, x, "u"+key, "user's"), key, "user's")
	}
}

// TestLookAgainstWords looks for many keys in many trees.
func TestLookAgainstWords(t *testing.T) {
	for n := range 60 {
		x := grown(t, n)
		for i := range 70 {
			mustAgreeOnLook(t, "a grown tree", x, filled(i%6, uint32(i)))
		}
		mustAgreeOnLook(t, "a grown tree", x, "")
	}
}

// mustKey holds Key against bytes.
func mustKey(t testing.TB, key []byte, want string) {
	t.Helper()
	if got := command.Key(key); string(got) != want {
		t.Errorf("Key of %s = %s, want %s", short(string(key)), short(string(got)), short(want))
	}
}

// TestKey: the byte and the key, whatever the key is and however long.
func TestKey(t *testing.T) {
	mustKey(t, nil, "\x75")
	mustKey(t, []byte{}, "u")
	mustKey(t, []byte("a"), "ua")
	mustKey(t, []byte("u"), "uu")
	mustKey(t, []byte("ua"), "uua")
	mustKey(t, []byte(sessionKey(5)), "us\x00\x00\x00\x00\x00\x00\x00\x05")
	for b := range 256 {
		mustKey(t, []byte{byte(b)}, "u"+string([]byte{byte(b)}))
		mustKey(t, []byte{byte(b), 0, byte(b)}, "u"+string([]byte{byte(b), 0, byte(b)}))
	}
	for _, n := range []int{2, 7, 8, 9, 63, 64, 65, 79, 80, 81, 247, 248, 1024, 1025, 1 << 20} {
		mustKey(t, []byte(filled(n, 1)), "u"+filled(n, 1))
	}
}

// TestKeyIsWhereItIsStored: what is put stands under Key, and is looked up.
func TestKeyIsWhereItIsStored(t *testing.T) {
	for _, key := range []string{"", "a", "u", "s", "\x00", "\xff", sessionKey(3), filled(64, 1)} {
		x := mustDo(t, grown(t, 9), put(50, 1, key, "value of "+key), 1+resultOf(t, grown(t, 9), key))
		mustStand(t, "Key", x, string(command.Key([]byte(key))), "value of "+key)
		mustLook(t, "Look", x, key, "value of "+key)
	}
}

// resultOf is 1 where the user's key is there.
func resultOf(t testing.TB, x api.Tree, key string) api.Result {
	t.Helper()
	if _, is := found(x, "u"+key); is {
		return 1
	}
	return 0
}
