package tabsum_test

import (
	"bytes"
	"math/rand"
	"testing"

	"calamus/tabsum"
)

// words adds up the words in the plainest way.
func words(b []byte) uint32 {
	b = append(bytes.Clone(b), 0, 0, 0)
	var s uint32
	for len(b) >= 4 {
		s += uint32(b[0])<<24 | uint32(b[1])<<16 | uint32(b[2])<<8 | uint32(b[3])
		b = b[4:]
	}
	return s
}

// sample is n bytes, most of them great, so that sums wrap around.
func sample(r *rand.Rand, n int) []byte {
	b := make([]byte, n)
	for i := range b {
		b[i] = byte(255 - r.Intn(1+r.Intn(256)))
	}
	return b
}

func TestSum(t *testing.T) {
	for _, x := range []struct {
		b    []byte
		want uint32
	}{
		{nil, 0}, {[]byte{}, 0}, {[]byte{0, 0, 0, 1, 2}, 0x02000001}, {[]byte{1}, 0x01000000}, {[]byte{1, 2}, 0x01020000}, {[]byte{1, 2, 3}, 0x01020300}, {[]byte{1, 2, 3, 4}, 0x01020304},
		{[]byte{1, 2, 3, 4, 5}, 0x06020304}, {bytes.Repeat([]byte{0xff}, 8), 0xfffffffe}, {[]byte{0x80, 0, 0, 0, 0x80, 0, 0, 1}, 1},
	} {
		if got := tabsum.Sum(x.b); got != x.want {
			t.Errorf("Sum(% x) = %#x, not %#x", x.b, got, x.want)
		}
	}
	r := rand.New(rand.NewSource(3))
	for n := range 70 {
		b := sample(r, n)
		before := bytes.Clone(b)
		if got := tabsum.Sum(b); got != words(b) {
			t.Errorf("Sum(% x) = %#x, not %#x", b, got, words(b))
		}
		// What lies behind the bytes, in their spare room, has no part in the sum.
		if got := tabsum.Sum(append(b, 9, 9, 9, 9)[:n]); got != words(b) {
			t.Errorf("Sum of %d bytes with others behind them = %#x, not %#x", n, got, words(b))
		}
		if !bytes.Equal(b, before) {
			t.Error("the argument was changed")
		}
	}
}

func TestMore(t *testing.T) {
	r := rand.New(rand.NewSource(4))
	for n := range 40 {
		b, s := sample(r, n), r.Uint32()
		if got := tabsum.More(s, b); got != s+words(b) {
			t.Errorf("More(%#x, % x) = %#x", s, b, got)
		}
	}
	if tabsum.More(0xffffffff, []byte{0, 0, 0, 2}) != 1 || tabsum.More(5, nil) != 5 {
		t.Error("More doesn't wrap around, or adds to nothing")
	}
}

func TestAdjust(t *testing.T) {
	if tabsum.Magic != 0xb1b0afba || tabsum.Adjust(0) != tabsum.Magic || tabsum.Adjust(tabsum.Magic) != 0 || tabsum.Adjust(tabsum.Magic+1) != 0xffffffff || tabsum.Adjust(0xffffffff) != tabsum.Magic+1 {
		t.Error("Adjust")
	}
}

func TestPieces(t *testing.T) {
	r := rand.New(rand.NewSource(5))
	for n := range 60 {
		b := sample(r, n)
		for at := 0; at <= n; at += 4 {
			if tabsum.More(tabsum.Sum(b[:at]), b[at:]) != tabsum.Sum(b) || tabsum.Sum(b[:at])+tabsum.Sum(b[at:]) != tabsum.Sum(b) {
				t.Errorf("the sum of %d bytes in pieces, cut at %d, is another", n, at)
			}
		}
		for zeros := range 9 {
			if tabsum.Sum(append(bytes.Clone(b), make([]byte, zeros)...)) != tabsum.Sum(b) {
				t.Errorf("%d zeros behind %d bytes change the sum", zeros, n)
			}
		}
		if n >= 8 {
			copy(b[4:], []byte{0, 0, 0, 0})
			a := tabsum.Adjust(tabsum.Sum(b))
			copy(b[4:], []byte{byte(a >> 24), byte(a >> 16), byte(a >> 8), byte(a)})
			if tabsum.Sum(b) != tabsum.Magic {
				t.Errorf("the adjusted sum of %d bytes is %#x", n, tabsum.Sum(b))
			}
		}
	}
}
