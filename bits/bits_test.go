package bits

import (
	"math"
	"slices"
	"testing"

	"gateline/api"
)

// words is a list that hits single bits, ends and no pattern at all.
func words() []uint32 {
	l := []uint32{0, 1, 2, 3, 0x80000000, 0x7fffffff, 0xffffffff, 0x12345678, 0xdeadbeef, 0x00ff00ff}
	x := uint32(1)
	for range 50 {
		x = x*1664525 + 1013904223
		l = append(l, x)
	}
	return l
}

// oneDown turns by a single place, told bit by bit, as a yardstick for Rot.
func oneDown(x uint32) uint32 {
	if x%2 == 1 {
		return x/2 + 1<<31
	}
	return x / 2
}

func TestRotExamples(t *testing.T) {
	for _, c := range []struct {
		x    uint32
		n    int
		want uint32
	}{
		{3, -1, 6},
		{3, 0, 3},
		{3, 1, 0x80000001},
		{1, 31, 2},
		{0x80000000, -1, 1},
		{0x12345678, 4, 0x81234567},
		{0x12345678, -4, 0x23456781},
		{0x12345678, 16, 0x56781234},
		{0x12345678, -16, 0x56781234},
		{0x12345678, 32, 0x12345678},
		{0x12345678, -32, 0x12345678},
		{0x12345678, 33, 0x091a2b3c},
		{0x12345678, -33, 0x2468acf0},
		{0x12345678, 64, 0x12345678},
		{0x12345678, 1 << 32, 0x12345678},
		{0x12345678, 1<<32 + 8, 0x78123456},
		{0x12345678, -1<<32 - 8, 0x34567812},
		{0x12345678, math.MinInt, 0x12345678},
		{0x12345678, math.MinInt + 8, 0x78123456},
		{0x12345678, math.MaxInt, 0x2468acf0},
		{0, 17, 0},
		{0xffffffff, -5, 0xffffffff},
	} {
		if got := Rot(c.x, c.n); got != c.want {
			t.Errorf("P1.1: Rot(%#x, %d) = %#x, want %#x", c.x, c.n, got, c.want)
		}
	}
}

func TestRotIsSingleTurns(t *testing.T) {
	for _, x := range words() {
		want := x
		for n := range 100 {
			if got := Rot(x, n); got != want {
				t.Errorf("P1.1: Rot(%#x, %d) = %#x, want %#x", x, n, got, want)
			}
			if got := Rot(want, -n); got != x {
				t.Errorf("P1.1: Rot(%#x, %d) = %#x, want %#x", want, -n, got, x)
			}
			want = oneDown(want)
		}
	}
}

func TestWords(t *testing.T) {
	for _, c := range []struct {
		b    []byte
		want []uint32
	}{
		{nil, nil},
		{[]byte{}, nil},
		{[]byte{1, 2, 3, 4}, []uint32{0x01020304}},
		{[]byte{255, 0, 0, 0}, []uint32{0xff000000}},
		{[]byte{0, 0, 0, 255}, []uint32{0xff}},
		{[]byte{128, 0, 0, 1, 0, 254, 1, 0, 255, 255, 255, 255}, []uint32{0x80000001, 0x00fe0100, 0xffffffff}},
	} {
		if got, e := Words(c.b); e != api.OK || !slices.Equal(got, c.want) {
			t.Errorf("P1.2: Words(%v) = %#x, %d, want %#x", c.b, got, e, c.want)
		}
	}
}

func TestWordsRefusesOtherLengths(t *testing.T) {
	for n := range 70 {
		b := slices.Repeat([]byte{7}, n)
		got, e := Words(b)
		if n%4 != 0 && (e != api.ErrArg || got != nil) {
			t.Errorf("P1.2: Words of %d bytes = %#x, %d, want nothing and ErrArg", n, got, e)
		}
		if n%4 == 0 && (e != api.OK || len(got) != n/4) {
			t.Errorf("P1.2: Words of %d bytes = %#x, %d, want %d words", n, got, e, n/4)
		}
	}
}

func TestBytes(t *testing.T) {
	for _, c := range []struct {
		w    []uint32
		want []byte
	}{
		{nil, nil},
		{[]uint32{}, nil},
		{[]uint32{0}, []byte{0, 0, 0, 0}},
		{[]uint32{0x01020304}, []byte{1, 2, 3, 4}},
		{[]uint32{0xff000000, 0xff}, []byte{255, 0, 0, 0, 0, 0, 0, 255}},
		{[]uint32{0xffffffff, 0x80000001, 0x00fe0100}, []byte{255, 255, 255, 255, 128, 0, 0, 1, 0, 254, 1, 0}},
	} {
		if got := Bytes(c.w); !slices.Equal(got, c.want) {
			t.Errorf("P1.2: Bytes(%#x) = %v, want %v", c.w, got, c.want)
		}
	}
}

func TestPut(t *testing.T) {
	for _, c := range []struct {
		n, size int
		want    []byte
		e       api.Errno
	}{
		{0, 0, nil, api.OK},
		{0, 1, []byte{0}, api.OK},
		{0, 8, make([]byte, 8), api.OK},
		{300, 2, []byte{1, 44}, api.OK},
		{300, 5, []byte{0, 0, 0, 1, 44}, api.OK},
		{0x010203, 3, []byte{1, 2, 3}, api.OK},
		{api.MaxSerial, 6, []byte{1, 0, 0, 0, 0, 0}, api.OK},
		{math.MaxInt, 8, []byte{127, 255, 255, 255, 255, 255, 255, 255}, api.OK},
		{1, 0, nil, api.ErrOver},
		{300, 1, nil, api.ErrOver},
		{300, 0, nil, api.ErrOver},
		{math.MaxInt, 7, nil, api.ErrOver},
		{-1, 0, nil, api.ErrArg},
		{-1, 4, nil, api.ErrArg},
		{-300, 1, nil, api.ErrArg},
		{math.MinInt, 8, nil, api.ErrArg},
		{math.MinInt, 0, nil, api.ErrArg},
		{5, 9, nil, api.ErrArg},
		{5, -1, nil, api.ErrArg},
		{5, -8, nil, api.ErrArg},
		{5, math.MaxInt, nil, api.ErrArg},
		{5, math.MinInt, nil, api.ErrArg},
		{math.MaxInt, 9, nil, api.ErrArg},
		{-1, -1, nil, api.ErrArg},
	} {
		got, e := Put(c.n, c.size)
		if e != c.e || !slices.Equal(got, c.want) {
			t.Errorf("P1.3: Put(%d, %d) = %v, %d, want %v, %d", c.n, c.size, got, e, c.want, c.e)
		}
		if e != api.OK && got != nil {
			t.Errorf("R1: Put(%d, %d) = %v beside the error %d", c.n, c.size, got, e)
		}
	}
}

func TestPutAtThePowers(t *testing.T) {
	for size := range 8 {
		power := 1 << (8 * size)
		if b, e := Put(power-1, size); e != api.OK || !slices.Equal(b, slices.Repeat([]byte{255}, size)) {
			t.Errorf("P1.3: Put(%d, %d) = %v, %d", power-1, size, b, e)
		}
		if b, e := Put(power, size); e != api.ErrOver || b != nil {
			t.Errorf("P1.3: Put(%d, %d) = %v, %d, want ErrOver", power, size, b, e)
		}
		want := append([]byte{1}, make([]byte, size)...)
		if b, e := Put(power, size+1); e != api.OK || !slices.Equal(b, want) {
			t.Errorf("P1.3: Put(%d, %d) = %v, %d, want %v", power, size+1, b, e, want)
		}
	}
}

func TestGet(t *testing.T) {
	for _, c := range []struct {
		b    []byte
		want int
		e    api.Errno
	}{
		{nil, 0, api.OK},
		{[]byte{}, 0, api.OK},
		{[]byte{0}, 0, api.OK},
		{[]byte{255}, 255, api.OK},
		{[]byte{1, 44}, 300, api.OK},
		{[]byte{0, 0, 1, 44}, 300, api.OK},
		{[]byte{1, 2, 3}, 0x010203, api.OK},
		{[]byte{255, 255, 255, 255, 255, 255, 255}, 1<<56 - 1, api.OK},
		{[]byte{128, 0, 0, 0, 0, 0, 0}, 1 << 55, api.OK},
		{[]byte{0, 128, 0, 0, 0, 0, 0, 0}, 1 << 55, api.OK},
		{[]byte{127, 255, 255, 255, 255, 255, 255, 255}, math.MaxInt, api.OK},
		{[]byte{127, 0, 0, 0, 0, 0, 0, 1}, 127<<56 + 1, api.OK},
		{[]byte{128, 0, 0, 0, 0, 0, 0, 0}, 0, api.ErrOver},
		{[]byte{128, 0, 0, 0, 0, 0, 0, 1}, 0, api.ErrOver},
		{slices.Repeat([]byte{255}, 8), 0, api.ErrOver},
		{make([]byte, 9), 0, api.ErrArg},
		{slices.Repeat([]byte{255}, 9), 0, api.ErrArg},
		{make([]byte, 4096), 0, api.ErrArg},
	} {
		if got, e := Get(c.b); got != c.want || e != c.e {
			t.Errorf("P1.3: Get(%v) = %d, %d, want %d, %d", c.b, got, e, c.want, c.e)
		}
	}
}

func TestTurnsAddUp(t *testing.T) {
	turns := []int{0, 1, -1, 7, -7, 31, -31, 32, -32, 33, 100, -100, 1 << 40, -1 << 40, math.MaxInt / 2, math.MinInt / 2}
	for _, x := range words() {
		for _, m := range turns {
			for _, n := range turns {
				if got, want := Rot(Rot(x, m), n), Rot(x, m+n); got != want {
					t.Errorf("P1.4: %#x turned by %d and %d is %#x, by their sum %#x", x, m, n, got, want)
				}
			}
		}
	}
}

func TestBytesAreWordsAgain(t *testing.T) {
	all := words()
	for n := range len(all) + 1 {
		w := all[:n]
		b := Bytes(w)
		got, e := Words(b)
		if e != api.OK || !slices.Equal(got, w) {
			t.Errorf("P1.4: %#x came back as %#x, %d", w, got, e)
		}
		if again := Bytes(got); !slices.Equal(again, b) {
			t.Errorf("P1.4: %v came back as %v", b, again)
		}
	}
}

func TestPutIsGotAgain(t *testing.T) {
	numbers := []int{0, 1, 127, 128, 255, 256, 65535, 65536, api.MaxSerial, math.MaxInt - 1, math.MaxInt}
	for _, x := range words() {
		numbers = append(numbers, int(x), int(x)<<31|int(x)>>1)
	}
	for _, n := range numbers {
		kept := 0
		for size := range 9 {
			b, e := Put(n, size)
			if e != api.OK {
				continue
			}
			kept++
			if got, e := Get(b); len(b) != size || e != api.OK || got != n {
				t.Errorf("P1.4: %d in %d bytes came back as %d, %d", n, size, got, e)
			}
		}
		if kept == 0 {
			t.Errorf("P1.4: %d was put in no size", n)
		}
	}
}

func TestGotIsPutAgain(t *testing.T) {
	for size := range 9 {
		for _, first := range []byte{0, 1, 127, 128, 255} {
			b := slices.Repeat([]byte{0xa5}, size)
			if size > 0 {
				b[0] = first
			}
			n, e := Get(b)
			if size == 8 && first >= 128 {
				continue
			}
			if got, f := Put(n, size); e != api.OK || f != api.OK || !slices.Equal(got, b) {
				t.Errorf("P1.4: %v came back as %v, %d, %d", b, got, e, f)
			}
		}
	}
}

func TestArgumentsStayAndAnswersAreNew(t *testing.T) {
	b := []byte{1, 2, 3, 4, 5, 6, 7, 8}
	w := []uint32{0x01020304, 0x05060708}
	fromBytes, _ := Words(b)
	fromWords := Bytes(w)
	Get(b)
	if !slices.Equal(b, []byte{1, 2, 3, 4, 5, 6, 7, 8}) || !slices.Equal(w, []uint32{0x01020304, 0x05060708}) {
		t.Fatalf("R2: what was handed in is now %v, %#x", b, w)
	}
	clear(b)
	clear(w)
	if !slices.Equal(fromBytes, []uint32{0x01020304, 0x05060708}) || !slices.Equal(fromWords, []byte{1, 2, 3, 4, 5, 6, 7, 8}) {
		t.Errorf("R2: what came out is now %#x, %v", fromBytes, fromWords)
	}
}
