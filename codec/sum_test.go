package codec_test

import (
	"bytes"
	"hash/crc32"
	"strings"
	"testing"

	"mooring/api"
	"mooring/codec"
)

// sample answers size bytes of many values.
func sample(size int) []byte {
	b := make([]byte, size)
	for i := range b {
		b[i] = byte(i*i*7 + i*13 + size)
	}
	return b
}

func TestSum(t *testing.T) {
	for _, c := range []struct {
		b    []byte
		want uint32
	}{
		{nil, 0},
		{[]byte{}, 0},
		{[]byte("123456789"), 3421780262},
		{[]byte{0}, 0xd202ef8d},
		{[]byte{255}, 0xff000000},
		{[]byte("a"), 0xe8b7be43},
		{make([]byte, 32), 0x190a55ad},
	} {
		if got := codec.Sum(c.b); got != c.want {
			t.Errorf("1.3: Sum(%x): %x, not %x", c.b, got, c.want)
		}
	}
	for x := range 256 {
		b := []byte{byte(x)}
		if got, want := codec.Sum(b), crc32.ChecksumIEEE(b); got != want {
			t.Errorf("1.3: Sum(%x): %x, not %x", b, got, want)
		}
	}
	for size := range 200 {
		b := sample(size)
		if got, want := codec.Sum(b), crc32.ChecksumIEEE(b); got != want {
			t.Errorf("1.3: Sum(%x): %x, not %x", b, got, want)
		}
	}
}

func TestSeal(t *testing.T) {
	for _, c := range []struct{ text, want string }{
		{"", "\x00\x00\x00\x00"},
		{"a", "a\x43\xbe\xb7\xe8"},
		{"123456789", "123456789\x26\x39\xf4\xcb"},
	} {
		if got := codec.Seal([]byte(c.text)); string(got) != c.want {
			t.Errorf("1.3: Seal(%q): %x, not %x", c.text, got, c.want)
		}
	}
}

func TestUnsealIsSealsBack(t *testing.T) {
	if b, e := codec.Unseal(codec.Seal([]byte("a"))); string(b) != "a" || e != api.OK {
		t.Errorf("1.3: the chapter's example: %q %d", b, e)
	}
	for size := range 100 {
		want := sample(size)
		if got, e := codec.Unseal(codec.Seal(want)); !bytes.Equal(got, want) || e != api.OK {
			t.Errorf("1.3: %x: %x %d", want, got, e)
		}
	}
}

func TestUnsealTakesWhatSealWrites(t *testing.T) {
	if b, e := codec.Unseal([]byte{0, 0, 0, 0}); len(b) != 0 || e != api.OK {
		t.Errorf("1.3: nothing sealed: %x %d", b, e)
	}
	if b, e := codec.Unseal([]byte("a\x43\xbe\xb7\xe8")); string(b) != "a" || e != api.OK {
		t.Errorf("1.3: %q %d", b, e)
	}
}

func TestUnsealRefuses(t *testing.T) {
	for _, c := range []struct {
		b    string
		want api.Errno
	}{
		{"", api.ErrShort},
		{"\x00", api.ErrShort},
		{"\x00\x00", api.ErrShort},
		{"\x00\x00\x00", api.ErrShort},
		{"\x00\x00\x00\x01", api.ErrSum},
		{"\x01\x00\x00\x00", api.ErrSum},
		{"\xff\xff\xff\xff", api.ErrSum},
		{"\x00\x00\x00\x00\x00", api.ErrSum},
		{"a\xe8\xb7\xbe\x43", api.ErrSum},
		{"a\x43\xbe\xb7", api.ErrSum},
		{"a\x43\xbe\xb7\xe8\x00", api.ErrSum},
		{"b\x43\xbe\xb7\xe8", api.ErrSum},
	} {
		if b, e := codec.Unseal([]byte(c.b)); len(b) != 0 || e != c.want {
			t.Errorf("1.3: Unseal(%x): %x %d, not %d", c.b, b, e, c.want)
		}
	}
	if b, e := codec.Unseal(nil); len(b) != 0 || e != api.ErrShort {
		t.Errorf("1.3: Unseal(nil): %x %d", b, e)
	}
}

func TestOneByteTurnedIsNeverUnsealed(t *testing.T) {
	texts := [][]byte{nil, {0}, make([]byte, 9), []byte("123456789"), []byte(strings.Repeat("\xff", 20)), sample(64)}
	for _, text := range texts {
		sealed := codec.Seal(text)
		for i := range sealed {
			for x := 1; x < 256; x++ {
				turned := append([]byte{}, sealed...)
				turned[i] ^= byte(x)
				if b, e := codec.Unseal(turned); len(b) != 0 || e != api.ErrSum {
					t.Fatalf("1.4: %x, byte %d turned by %d: %x %d", sealed, i, x, b, e)
				}
			}
		}
	}
}

func TestSealsShareNoMemory(t *testing.T) {
	room := []byte("abcdefghij")
	text := room[:3]
	sealed := codec.Seal(text)
	if codec.Sum(text) != crc32.ChecksumIEEE([]byte("abc")) || string(room) != "abcdefghij" {
		t.Errorf("R2: what was handed in is changed: %s", room)
	}
	overwrite(sealed)
	if string(room) != "abcdefghij" {
		t.Errorf("R2: Seal answers what was handed in: %s", room)
	}
	kept := codec.Seal(text)
	again := append([]byte{}, kept...)
	inner, e := codec.Unseal(again)
	if e != api.OK || !bytes.Equal(again, kept) {
		t.Errorf("R2: what was handed in is changed: %x %d", again, e)
	}
	overwrite(inner)
	if !bytes.Equal(again, kept) {
		t.Errorf("R2: Unseal answers what was handed in: %x", again)
	}
}
