package seal

import (
	"bytes"
	"encoding/binary"
	"fmt"
	"math"
	"slices"
	"testing"

	"gateline/api"
)

// noise is n bytes without a pattern, always the same ones of one seed.
func noise(n int, seed uint32) []byte {
	b := make([]byte, n)
	x := seed*2654435761 + 1
	for i := range b {
		x = x*1664525 + 1013904223
		b[i] = byte(x >> 24)
	}
	return b
}

// tagOf is a tag whose first 4 bytes are first, and whose others are all rest.
func tagOf(first uint32, rest byte) [32]byte {
	tag := [32]byte(bytes.Repeat([]byte{rest}, 32))
	binary.BigEndian.PutUint32(tag[:], first)
	return tag
}

func TestDiffOrdinary(t *testing.T) {
	for _, c := range []struct {
		a, b   []byte
		bits   byte
		asMany bool
	}{
		{nil, nil, 0, true},
		{nil, []byte{}, 0, true},
		{[]byte{}, []byte{}, 0, true},
		{nil, []byte{0}, 0, false},
		{[]byte{7}, nil, 0, false},
		{[]byte{7}, []byte{7}, 0, true},
		{[]byte{7}, []byte{5}, 2, true},
		{[]byte{0}, []byte{255}, 255, true},
		{[]byte{170}, []byte{85}, 255, true},
		{[]byte{1, 2, 3}, []byte{1, 2, 3}, 0, true},
		{[]byte{1, 2, 3}, []byte{1, 2}, 0, false},
		{[]byte{1, 2}, []byte{1, 2, 0}, 0, false},
		{[]byte{1, 2}, []byte{2, 1}, 3, true},
		{[]byte{1, 0, 0}, []byte{0, 2, 4}, 7, true},
		{[]byte{1, 0, 0}, []byte{0, 2}, 3, false},
		// The same bit twice: by or it stays, where exclusive or or a sum would take it away.
		{[]byte{1, 1}, []byte{0, 0}, 1, true},
		{[]byte{128, 128}, []byte{0, 0}, 128, true},
		{[]byte{1, 0}, []byte{0, 1}, 1, true},
		{bytes.Repeat([]byte{1}, 256), make([]byte, 256), 1, true},
		// Only what both have counts.
		{[]byte{9, 255}, []byte{9}, 0, false},
		{[]byte{9}, []byte{8, 255}, 1, false},
	} {
		for _, turned := range []bool{false, true} {
			a, b := c.a, c.b
			if turned {
				a, b = b, a
			}
			bits, asMany := Diff(a, b)
			if bits != c.bits || asMany != c.asMany {
				t.Errorf("P4.1: Diff(%v, %v) = %d, %v, want %d, %v", a, b, bits, asMany, c.bits, c.asMany)
			}
			if got, want := Same(a, b), c.bits == 0 && c.asMany; got != want {
				t.Errorf("P4.1: Same(%v, %v) = %v, want %v", a, b, got, want)
			}
		}
	}
}

func TestDiffOfEveryTwoBytes(t *testing.T) {
	for x := range 256 {
		for y := range 256 {
			a, b := []byte{byte(x)}, []byte{byte(y)}
			bits, asMany := Diff(a, b)
			if int(bits) != x^y || !asMany {
				t.Errorf("P4.1: Diff(%v, %v) = %d, %v", a, b, bits, asMany)
			}
			if Same(a, b) != (x == y) {
				t.Errorf("P4.1: Same(%v, %v) = %v", a, b, Same(a, b))
			}
		}
	}
}

func TestDiffOfNoise(t *testing.T) {
	for n := range 70 {
		for m := range 70 {
			a, b := noise(n, 1), noise(m, uint32(n%3+1))
			want := byte(0)
			for i := 0; i < n && i < m; i++ {
				want |= a[i] ^ b[i]
			}
			bits, asMany := Diff(a, b)
			if bits != want || asMany != (n == m) {
				t.Errorf("P4.1: Diff of %d and %d bytes = %d, %v, want %d, %v", n, m, bits, asMany, want, n == m)
			}
			if got := Same(a, b); got != bytes.Equal(a, b) {
				t.Errorf("P4.1: Same of %d and %d bytes = %v", n, m, got)
			}
		}
	}
}

// TestEveryBitThatDiffersIsTold changes one bit at a time, then all bits of two places.
func TestEveryBitThatDiffersIsTold(t *testing.T) {
	for _, n := range []int{1, 2, 4, 5, 10, 16, 31, 32, 33, 100} {
		tag := noise(n, 5)
		for place := range n {
			for bit := range 8 {
				wrong := slices.Clone(tag)
				wrong[place] ^= 1 << bit
				if bits, asMany := Diff(tag, wrong); bits != 1<<bit || !asMany {
					t.Errorf("P4.3: bit %d of place %d of %d differs, and Diff = %d, %v", bit, place, n, bits, asMany)
				}
				if Same(tag, wrong) || Same(wrong, tag) {
					t.Errorf("P4.3: bit %d of place %d of %d differs, and both are the same", bit, place, n)
				}
				last := n - 1
				if place == last {
					continue
				}
				wrong[last] ^= 255
				if bits, _ := Diff(tag, wrong); bits != 255 {
					t.Errorf("P4.1: behind place %d of %d, Diff = %d", place, n, bits)
				}
			}
		}
		if !Same(tag, slices.Clone(tag)) {
			t.Errorf("P4.3: %d bytes are not the same as themselves", n)
		}
		if Same(tag, tag[:n-1]) || Same(tag[:n-1], tag) {
			t.Errorf("P4.1: %d bytes are the same as the first %d of them", n, n-1)
		}
	}
}

func TestDiffOfManyBytes(t *testing.T) {
	a := noise(1<<20, 9)
	b := slices.Clone(a)
	if bits, asMany := Diff(a, b); bits != 0 || !asMany || !Same(a, b) {
		t.Errorf("P4.1: Diff of the same bytes = %d, %v", bits, asMany)
	}
	b[len(b)-1] ^= 64
	if bits, asMany := Diff(a, b); bits != 64 || !asMany || Same(a, b) {
		t.Errorf("P4.3: Diff of bytes whose last ones differ = %d, %v", bits, asMany)
	}
}

func TestCut(t *testing.T) {
	for _, n := range []uint32{0, 1, 255, 256, 65535, 65536, 16777215, 16777216, 16909060, 1 << 31, 1<<31 - 1, 4294967295} {
		for _, rest := range []byte{0, 1, 128, 255} {
			if got := Cut(tagOf(n, rest)); got != int(n) {
				t.Errorf("P4.2: Cut of the first bytes of %d, and %d behind them = %d", n, rest, got)
			}
		}
	}
	for i, want := range []int{16777216, 65536, 256, 1} {
		tag := [32]byte{}
		tag[i] = 1
		if got := Cut(tag); got != want {
			t.Errorf("P4.2: Cut of a 1 at place %d = %d, want %d", i, got, want)
		}
		tag[i] = 255
		if got := Cut(tag); got != want*255 {
			t.Errorf("P4.2: Cut of a 255 at place %d = %d, want %d", i, got, want*255)
		}
	}
	for i := 4; i < 32; i++ {
		tag := [32]byte{}
		tag[i] = 255
		if got := Cut(tag); got != 0 {
			t.Errorf("P4.2: Cut of a 255 at place %d = %d, want 0", i, got)
		}
	}
}

func TestTagsOfTheSameFirstBytesAreCutAlike(t *testing.T) {
	cuts := map[int]bool{}
	for i := range uint32(500) {
		tag := [32]byte(noise(32, i))
		other := [32]byte(noise(32, i+1000))
		copy(other[:4], tag[:4])
		if Cut(tag) != Cut(other) {
			t.Errorf("P4.3: %v is cut to %d, and %v to %d", tag, Cut(tag), other, Cut(other))
		}
		cuts[Cut(tag)] = true
	}
	if len(cuts) != 500 {
		t.Errorf("P4.2: 500 tags of different first bytes have %d cuts", len(cuts))
	}
}

func TestDigits(t *testing.T) {
	numbers := []int{0, 1, 7, 9, 10, 11, 99, 100, 1234, 65535, 999999999, 1000000000, 1234567890, 2147483647, 2147483648, 4294967294, 4294967295}
	for i := range uint32(500) {
		numbers = append(numbers, Cut([32]byte(noise(32, i)))>>(i%32))
	}
	for _, n := range numbers {
		got, code := Digits(n)
		want := []byte(fmt.Sprintf("%010d", n))
		for i := range want {
			want[i] -= '0'
		}
		if code != api.OK || !bytes.Equal(got, want) {
			t.Errorf("P4.2: Digits(%d) = %v, %d, want %v", n, got, code, want)
		}
	}
	if got, code := Digits(4294967295); code != api.OK || !bytes.Equal(got, []byte{4, 2, 9, 4, 9, 6, 7, 2, 9, 5}) {
		t.Errorf("P4.2: Digits(4294967295) = %v, %d", got, code)
	}
	if got, code := Digits(305); code != api.OK || !bytes.Equal(got, []byte{0, 0, 0, 0, 0, 0, 0, 3, 0, 5}) {
		t.Errorf("P4.2: Digits(305) = %v, %d", got, code)
	}
}

func TestDigitsOfNumbersOutside(t *testing.T) {
	for _, n := range []int{-1, -10, 4294967296, 4294967297, 9999999999, 10000000000, 1 << 33, 1<<32 + 305, math.MaxInt, math.MinInt, -4294967296} {
		if got, code := Digits(n); got != nil || code != api.ErrArg {
			t.Errorf("P4.2, R1: Digits(%d) = %v, %d, want nil, %d", n, got, code, api.ErrArg)
		}
	}
}

// TestDigitsOfCuts: what Cut answers, Digits takes.
func TestDigitsOfCuts(t *testing.T) {
	for i := range uint32(200) {
		n := Cut([32]byte(noise(32, i)))
		digits, code := Digits(n)
		back := 0
		for _, d := range digits {
			back = back*10 + int(d)
		}
		if code != api.OK || len(digits) != 10 || back != n {
			t.Errorf("P4.2: Digits(%d) = %v, %d", n, digits, code)
		}
	}
}

func TestArgumentsStay(t *testing.T) {
	for n := range 40 {
		a, b := noise(n, 1), noise(40-n, 2)
		keptA, keptB := slices.Clone(a), slices.Clone(b)
		bits, asMany := Diff(a, b)
		same := Same(a, b)
		if !bytes.Equal(a, keptA) || !bytes.Equal(b, keptB) {
			t.Fatalf("R2: %v and %v were handed in, and are now %v and %v", keptA, keptB, a, b)
		}
		againBits, againAsMany := Diff(a, b)
		if againBits != bits || againAsMany != asMany || Same(a, b) != same {
			t.Errorf("R2: %v and %v have another answer the second time", a, b)
		}
	}
}

func TestAnswersAreNotChangedLater(t *testing.T) {
	first, _ := Digits(1234567890)
	kept := slices.Clone(first)
	second, _ := Digits(1234567890)
	second[0] = 99
	if third, _ := Digits(1234567890); !bytes.Equal(first, kept) || !bytes.Equal(third, kept) {
		t.Errorf("R2: Digits answered %v, and later %v and %v", kept, first, third)
	}
}
