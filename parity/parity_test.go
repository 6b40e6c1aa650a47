package parity

import (
	"math"
	"math/bits"
	"slices"
	"testing"

	"gateline/api"
)

// charsOf is the characters of the values from 0 on, as the document counts them out.
func charsOf() []int {
	return []int{16, 1, 2, 19, 4, 21, 22, 7, 8, 25, 26, 11, 28, 13, 14, 31}
}

// farOff is numbers that are neither values nor characters; some of them have low bits that would be.
func farOff() []int {
	return []int{math.MinInt, math.MinInt + 1, math.MinInt32, -1 << 20, -33, -32, -31, -17, -16, -15, -5, -1, 32, 33, 47, 48, 63, 64, 128 + 19, 256, 1<<32 + 1, math.MaxInt32, 1 << 62, math.MaxInt - 1, math.MaxInt}
}

// noise is n values without a pattern, always the same ones of one seed.
func noise(n int, seed uint32) []int {
	l := make([]int, n)
	x := seed*2654435761 + 1
	for i := range l {
		x = x*1664525 + 1013904223
		l[i] = int(x >> 28)
	}
	return l
}

func TestChar(t *testing.T) {
	for v, want := range charsOf() {
		got, e := Char(v)
		if got != want || e != api.OK {
			t.Errorf("P10.1: Char(%d) = %d, %d, want %d", v, got, e, want)
		}
		if bits.OnesCount(uint(got))%2 != 1 {
			t.Errorf("P10.1: Char(%d) = %d, which has an even number of ones", v, got)
		}
	}
	for _, v := range append(farOff(), 16, 17, 18, 30, 31) {
		if got, e := Char(v); got != 0 || e != api.ErrArg {
			t.Errorf("P10.1: Char(%d) = %d, %d, want 0, %d", v, got, e, api.ErrArg)
		}
	}
}

func TestValue(t *testing.T) {
	for c := range 32 {
		v := slices.Index(charsOf(), c)
		got, e := Value(c)
		if v >= 0 && (got != v || e != api.OK) {
			t.Errorf("P10.1: Value(%d) = %d, %d, want %d", c, got, e, v)
		}
		if v < 0 && (got != 0 || e != api.ErrParity) {
			t.Errorf("P10.1: Value(%d) = %d, %d, want 0, %d", c, got, e, api.ErrParity)
		}
	}
	for _, c := range []int{0, 3, 5, 6, 9, 10, 12, 15, 17, 18, 20, 23, 24, 27, 29, 30} {
		if got, e := Value(c); got != 0 || e != api.ErrParity {
			t.Errorf("P10.1: Value(%d) = %d, %d, want 0, %d", c, got, e, api.ErrParity)
		}
	}
	for _, c := range farOff() {
		if got, e := Value(c); got != 0 || e != api.ErrArg {
			t.Errorf("P10.1: Value(%d) = %d, %d, want 0, %d", c, got, e, api.ErrArg)
		}
	}
}

func TestSumByNumbers(t *testing.T) {
	for _, x := range []struct {
		l    []int
		want int
	}{
		{nil, 0}, {[]int{}, 0}, {[]int{0}, 0}, {[]int{15}, 15}, {[]int{7}, 7}, {[]int{0, 0, 0}, 0},
		{[]int{1, 2}, 3}, {[]int{1, 2, 4, 8}, 15}, {[]int{3, 5}, 6}, {[]int{15, 15}, 0}, {[]int{15, 15, 15}, 15}, {[]int{8, 8}, 0},
		{[]int{9, 8}, 1}, {[]int{11, 15}, 4}, {[]int{11, 1, 9, 15}, 12}, {[]int{0, 1, 2, 3, 4, 5, 6, 7, 8, 9, 10, 11, 12, 13, 14, 15}, 0},
	} {
		if got, e := Sum(x.l); got != x.want || e != api.OK {
			t.Errorf("P10.2: Sum(%v) = %d, %d, want %d", x.l, got, e, x.want)
		}
	}
	for v := range 16 {
		for w := range 16 {
			if got, e := Sum([]int{v, w}); got != v^w || e != api.OK {
				t.Errorf("P10.2: Sum of %d and %d = %d, %d, want %d", v, w, got, e, v^w)
			}
		}
	}
}

// TestSumBitByBit: a bit is 1, if an odd number of values have it.
func TestSumBitByBit(t *testing.T) {
	for n := range 200 {
		l := noise(n, uint32(n))
		want := 0
		for _, bit := range []int{1, 2, 4, 8} {
			having := 0
			for _, v := range l {
				having += v / bit % 2
			}
			want += having % 2 * bit
		}
		kept := slices.Clone(l)
		got, e := Sum(l)
		if got != want || e != api.OK {
			t.Errorf("P10.2: Sum(%v) = %d, %d, want %d", l, got, e, want)
		}
		if again, _ := Sum(l); again != got || !slices.Equal(l, kept) {
			t.Errorf("R2: %v was summed to %d, is now %v, and summed to %d", kept, got, l, again)
		}
	}
}

// TestSumOfWrongValues has a wrong one at each place, alone and twice: two of the same would cancel out.
func TestSumOfWrongValues(t *testing.T) {
	for _, wrong := range append(farOff(), 16, 17, 19, 31) {
		for n := 1; n < 8; n++ {
			for place := range n {
				l := noise(n, uint32(n))
				l[place] = wrong
				if got, e := Sum(l); got != 0 || e != api.ErrArg {
					t.Errorf("P10.2: Sum(%v) = %d, %d, want 0, %d", l, got, e, api.ErrArg)
				}
				l = append(l, wrong)
				if got, e := Sum(l); got != 0 || e != api.ErrArg {
					t.Errorf("P10.2: Sum(%v) = %d, %d, want 0, %d", l, got, e, api.ErrArg)
				}
			}
		}
	}
}

func TestBitsByNumbers(t *testing.T) {
	for _, x := range []struct {
		c    int
		want [5]bool
	}{
		{0, [5]bool{}},
		{1, [5]bool{true}},
		{2, [5]bool{false, true}},
		{4, [5]bool{false, false, true}},
		{8, [5]bool{false, false, false, true}},
		{16, [5]bool{false, false, false, false, true}},
		{11, [5]bool{true, true, false, true, false}},
		{19, [5]bool{true, true, false, false, true}},
		{25, [5]bool{true, false, false, true, true}},
		{28, [5]bool{false, false, true, true, true}},
		{31, [5]bool{true, true, true, true, true}},
	} {
		if got, e := Bits(x.c); got != x.want || e != api.OK {
			t.Errorf("P10.3: Bits(%d) = %v, %d, want %v", x.c, got, e, x.want)
		}
		if got := Of(x.want); got != x.c {
			t.Errorf("P10.3: Of(%v) = %d, want %d", x.want, got, x.c)
		}
	}
}

func TestBitsOfAll(t *testing.T) {
	seen := map[[5]bool]bool{}
	for c := range 32 {
		want, left := [5]bool{}, c
		for place := range want {
			want[place] = left%2 == 1
			left /= 2
		}
		got, e := Bits(c)
		if got != want || e != api.OK {
			t.Errorf("P10.3: Bits(%d) = %v, %d, want %v", c, got, e, want)
		}
		if back := Of(got); back != c {
			t.Errorf("P10.3: Of(%v) = %d, want %d", got, back, c)
		}
		seen[got] = true
	}
	if len(seen) != 32 {
		t.Errorf("P10.3: 32 characters have %d Bits", len(seen))
	}
	for _, c := range farOff() {
		if got, e := Bits(c); got != [5]bool{} || e != api.ErrArg {
			t.Errorf("P10.3: Bits(%d) = %v, %d, want none, %d", c, got, e, api.ErrArg)
		}
	}
}

// TestCharactersAreValuesAgain: what Char tells, Value takes back, and what Value takes is what Char tells.
func TestCharactersAreValuesAgain(t *testing.T) {
	for v := range 16 {
		c, _ := Char(v)
		if got, e := Value(c); got != v || e != api.OK {
			t.Errorf("P10.4: Char(%d) = %d, whose Value is %d, %d", v, c, got, e)
		}
	}
	for c := range 32 {
		v, e := Value(c)
		if e != api.OK {
			continue
		}
		if got, e := Char(v); got != c || e != api.OK {
			t.Errorf("P10.4: Value(%d) = %d, whose Char is %d, %d", c, v, got, e)
		}
	}
}

// TestOneBitThatIsChangedIsTold changes a bit of what Bits tells, and a second one, that puts it right again.
func TestOneBitThatIsChangedIsTold(t *testing.T) {
	for v := range 16 {
		c, _ := Char(v)
		right, _ := Bits(c)
		for place := range right {
			wrong := right
			wrong[place] = !wrong[place]
			if got, e := Value(Of(wrong)); got != 0 || e != api.ErrParity {
				t.Errorf("P10.4: bit %d of the character of %d was changed, and its Value = %d, %d", place, v, got, e)
			}
			for second := range right {
				if second == place {
					continue
				}
				other := wrong
				other[second] = !other[second]
				if got, e := Value(Of(other)); got == v || e != api.OK {
					t.Errorf("P10.1: bits %d and %d of the character of %d were changed, and its Value = %d, %d", place, second, v, got, e)
				}
			}
		}
	}
}

func TestAValueThatIsChangedChangesTheSum(t *testing.T) {
	for n := range 20 {
		l := noise(n, uint32(n))
		sum, _ := Sum(l)
		for place := range l {
			for v := range 16 {
				other := slices.Clone(l)
				other[place] = v
				got, e := Sum(other)
				if e != api.OK || (got == sum) != (v == l[place]) {
					t.Errorf("P10.4: Sum(%v) = %d, and Sum(%v) = %d, %d", l, sum, other, got, e)
				}
			}
		}
	}
}

// TestATrack is the document's example: the digits 1 and 9, between 11 and 15, with their sum behind them.
func TestATrack(t *testing.T) {
	l := []int{11, 1, 9, 15}
	sum, _ := Sum(l)
	got := ""
	for _, v := range append(l, sum) {
		c, _ := Char(v)
		b, _ := Bits(c)
		for _, one := range b {
			got += map[bool]string{false: "0", true: "1"}[one]
		}
	}
	if want := "1101010000100111111100111"; got != want {
		t.Errorf("P10.1, P10.2, P10.3: the bits of 1 and 9 are %s, want %s", got, want)
	}
}
