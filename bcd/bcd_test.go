package bcd

import (
	"bytes"
	"math"
	"slices"
	"strconv"
	"strings"
	"testing"

	"gateline/api"
)

// digitsOf is text of decimal digits as digits.
func digitsOf(text string) []byte {
	l := []byte{}
	for _, c := range text {
		l = append(l, byte(c-'0'))
	}
	return l
}

// textOf is n as width digits, in text; n has no more digits.
func textOf(n, width int) string {
	if width == 0 {
		return ""
	}
	s := strconv.Itoa(n)
	return strings.Repeat("0", width-len(s)) + s
}

// power is 10 to the power of n.
func power(n int) int {
	p := 1
	for range n {
		p *= 10
	}
	return p
}

// noise is numbers without a pattern, always the same ones of one seed.
func noise(seed uint64) func() int {
	x := seed*0x9e3779b97f4a7c15 + 1
	return func() int {
		x ^= x << 13
		x ^= x >> 7
		x ^= x << 17
		return int(x >> 1)
	}
}

// noiseParts is count numbers without a pattern, each with a width that it goes into.
func noiseParts(count int, seed uint64) (vals, widths []int) {
	next := noise(seed)
	for range count {
		w := next() % 19
		vals = append(vals, next()%power(w))
		widths = append(widths, w)
	}
	return vals, widths
}

// joinedText is vals as digits of those widths, in text.
func joinedText(vals, widths []int) string {
	s := ""
	for i, n := range vals {
		s += textOf(n, widths[i])
	}
	return s
}

// noWidths is numbers that are no width.
func noWidths() []int {
	return []int{-1, 19, 20, -2, -18, 256, 1 << 32, 1<<32 + 3, math.MaxInt, math.MinInt, math.MinInt + 1}
}

// negatives is numbers below 0.
func negatives() []int {
	return []int{-1, -2, -9, -10, -300, -power(18), math.MinInt, math.MinInt + 1}
}

func wantPut(t *testing.T, n, width int, want []byte, code api.Errno) {
	t.Helper()
	got, e := Put(n, width)
	if e != code || !bytes.Equal(got, want) || code != api.OK && got != nil {
		t.Errorf("P12.1: Put(%d, %d) = %v, %d, want %v, %d", n, width, got, e, want, code)
	}
}

func wantGet(t *testing.T, l []byte, want int, code api.Errno) {
	t.Helper()
	got, e := Get(l)
	if got != want || e != code {
		t.Errorf("P12.1: Get(%v) = %d, %d, want %d, %d", l, got, e, want, code)
	}
}

func wantJoin(t *testing.T, vals, widths []int, want []byte, code api.Errno) {
	t.Helper()
	got, e := Join(vals, widths)
	if e != code || !bytes.Equal(got, want) || code != api.OK && got != nil {
		t.Errorf("P12.2: Join(%v, %v) = %v, %d, want %v, %d", vals, widths, got, e, want, code)
	}
}

func wantSplit(t *testing.T, l []byte, widths, want []int, code api.Errno) {
	t.Helper()
	got, e := Split(l, widths)
	if e != code || !slices.Equal(got, want) || code != api.OK && got != nil {
		t.Errorf("P12.2: Split(%v, %v) = %v, %d, want %v, %d", l, widths, got, e, want, code)
	}
}

func TestPutExamples(t *testing.T) {
	for _, x := range []struct {
		n, width int
		want     []byte
	}{
		{0, 0, nil},
		{0, 1, []byte{0}},
		{0, 3, []byte{0, 0, 0}},
		{7, 1, []byte{7}},
		{7, 2, []byte{0, 7}},
		{10, 2, []byte{1, 0}},
		{300, 3, []byte{3, 0, 0}},
		{300, 5, []byte{0, 0, 3, 0, 0}},
		{1234567, 7, []byte{1, 2, 3, 4, 5, 6, 7}},
		{9999999, 7, []byte{9, 9, 9, 9, 9, 9, 9}},
		{1, 18, []byte{0, 0, 0, 0, 0, 0, 0, 0, 0, 0, 0, 0, 0, 0, 0, 0, 0, 1}},
		{123456789012345678, 18, []byte{1, 2, 3, 4, 5, 6, 7, 8, 9, 0, 1, 2, 3, 4, 5, 6, 7, 8}},
		{999999999999999999, 18, []byte{9, 9, 9, 9, 9, 9, 9, 9, 9, 9, 9, 9, 9, 9, 9, 9, 9, 9}},
	} {
		wantPut(t, x.n, x.width, x.want, api.OK)
	}
}

func TestPutAllShort(t *testing.T) {
	for width := range 6 {
		for n := range power(width) {
			wantPut(t, n, width, digitsOf(textOf(n, width)), api.OK)
		}
	}
}

func TestPutOver(t *testing.T) {
	for width := range 19 {
		if width > 0 {
			wantPut(t, power(width)-1, width, bytes.Repeat([]byte{9}, width), api.OK)
			wantPut(t, power(width-1), width, append([]byte{1}, make([]byte, width-1)...), api.OK)
		}
		for _, n := range []int{power(width), power(width) + 1, 2 * power(width), 9 * power(width), math.MaxInt, math.MaxInt - 1} {
			wantPut(t, n, width, nil, api.ErrOver)
		}
		for wider := width + 1; wider < 19; wider++ {
			wantPut(t, power(wider), width, nil, api.ErrOver)
			wantPut(t, power(wider)-1, width, nil, api.ErrOver)
		}
		for d := 1; d < 10; d++ {
			wantPut(t, d*power(width), width, nil, api.ErrOver)
		}
	}
}

func TestPutOfWrongNumbersAndWidths(t *testing.T) {
	for _, n := range negatives() {
		for width := range 19 {
			wantPut(t, n, width, nil, api.ErrArg)
		}
		for _, width := range noWidths() {
			wantPut(t, n, width, nil, api.ErrArg)
		}
	}
	for _, width := range noWidths() {
		for _, n := range []int{0, 1, 9, 10, power(18) - 1, power(18), math.MaxInt} {
			wantPut(t, n, width, nil, api.ErrArg)
		}
	}
}

func TestGetExamples(t *testing.T) {
	for _, x := range []struct {
		l    []byte
		want int
	}{
		{nil, 0},
		{[]byte{}, 0},
		{[]byte{0}, 0},
		{[]byte{0, 0, 0}, 0},
		{[]byte{7}, 7},
		{[]byte{0, 7}, 7},
		{[]byte{7, 0}, 70},
		{[]byte{0, 0, 3, 0, 0}, 300},
		{[]byte{1, 2, 3, 4, 5, 6, 7}, 1234567},
		{make([]byte, 18), 0},
		{append([]byte{1}, make([]byte, 17)...), power(17)},
		{[]byte{1, 2, 3, 4, 5, 6, 7, 8, 9, 0, 1, 2, 3, 4, 5, 6, 7, 8}, 123456789012345678},
		{bytes.Repeat([]byte{9}, 18), 999999999999999999},
	} {
		wantGet(t, x.l, x.want, api.OK)
	}
}

func TestGetAllShort(t *testing.T) {
	for width := range 6 {
		for n := range power(width) {
			wantGet(t, digitsOf(textOf(n, width)), n, api.OK)
		}
	}
	// Of one byte, and of two, all there are.
	for x := range 256 {
		for y := range 256 {
			if x < 10 && y < 10 {
				wantGet(t, []byte{byte(x), byte(y)}, 10*x+y, api.OK)
			} else {
				wantGet(t, []byte{byte(x), byte(y)}, 0, api.ErrDigit)
			}
		}
		if x < 10 {
			wantGet(t, []byte{byte(x)}, x, api.OK)
		} else {
			wantGet(t, []byte{byte(x)}, 0, api.ErrDigit)
		}
	}
}

func TestGetDigit(t *testing.T) {
	for width := 1; width < 19; width++ {
		for place := range width {
			for _, wrong := range []byte{10, 11, 15, 16, '0', '9', 128, 255} {
				for _, fill := range []byte{0, 5, 9} {
					l := bytes.Repeat([]byte{fill}, width)
					l[place] = wrong
					wantGet(t, l, 0, api.ErrDigit)
				}
			}
		}
	}
}

func TestGetTooMany(t *testing.T) {
	for _, count := range []int{19, 20, 21, 36, 77, 256, 5000} {
		for _, fill := range []byte{0, 1, 9, 10, 255} {
			wantGet(t, bytes.Repeat([]byte{fill}, count), 0, api.ErrArg)
		}
	}
}

func TestJoinExamples(t *testing.T) {
	for _, x := range []struct {
		vals, widths []int
		want         []byte
	}{
		{nil, nil, nil},
		{[]int{}, nil, nil},
		{nil, []int{}, nil},
		{[]int{0}, []int{0}, nil},
		{[]int{0, 0, 0}, []int{0, 0, 0}, nil},
		{[]int{5}, []int{1}, []byte{5}},
		{[]int{5, 6}, []int{1, 1}, []byte{5, 6}},
		{[]int{5, 6}, []int{2, 3}, []byte{0, 5, 0, 0, 6}},
		{[]int{12, 0, 3}, []int{2, 0, 1}, []byte{1, 2, 3}},
		{[]int{0, 12, 0, 3, 0}, []int{0, 3, 0, 1, 2}, []byte{0, 1, 2, 3, 0, 0}},
		{[]int{2, 1234567, 1, 0, 59, 30, 0}, []int{1, 7, 1, 1, 5, 3, 1}, []byte{2, 1, 2, 3, 4, 5, 6, 7, 1, 0, 0, 0, 0, 5, 9, 0, 3, 0, 0}},
	} {
		wantJoin(t, x.vals, x.widths, x.want, api.OK)
	}
}

func TestJoinAtAllCounts(t *testing.T) {
	for count := range 21 {
		for seed := range uint64(100) {
			vals, widths := noiseParts(count, seed)
			wantJoin(t, vals, widths, digitsOf(joinedText(vals, widths)), api.OK)
		}
		wantJoin(t, slices.Repeat([]int{power(18) - 1}, count), slices.Repeat([]int{18}, count), bytes.Repeat([]byte{9}, 18*count), api.OK)
	}
}

func TestJoinOfWrongCounts(t *testing.T) {
	for count := range 25 {
		for other := range 25 {
			vals, widths := make([]int, count), make([]int, other)
			if count == other && count <= 20 {
				wantJoin(t, vals, widths, nil, api.OK)
			} else {
				wantJoin(t, vals, widths, nil, api.ErrArg)
			}
			// As many or not is asked ahead of what Put tells: it would tell ErrOver of each.
			if count != other || count > 20 {
				wantJoin(t, slices.Repeat([]int{5}, count), widths, nil, api.ErrArg)
			}
		}
	}
	wantJoin(t, make([]int, 1000), make([]int, 1000), nil, api.ErrArg)
	wantJoin(t, nil, []int{0}, nil, api.ErrArg)
	wantJoin(t, []int{0}, nil, nil, api.ErrArg)
}

func TestJoinAtAllPlaces(t *testing.T) {
	for count := 1; count < 21; count++ {
		for place := range count {
			vals, widths := noiseParts(count, uint64(count))
			widths[place] = 2
			vals[place] = 100
			wantJoin(t, vals, widths, nil, api.ErrOver)
			vals[place] = -1
			wantJoin(t, vals, widths, nil, api.ErrArg)
			for _, w := range noWidths() {
				vals[place], widths[place] = 1, w
				wantJoin(t, vals, widths, nil, api.ErrArg)
			}
		}
	}
}

func TestJoinTellsTheFirstError(t *testing.T) {
	for count := 2; count < 21; count++ {
		for first := range count {
			for second := first + 1; second < count; second++ {
				vals, widths := noiseParts(count, uint64(count)+7)
				vals[first], widths[first] = 10, 1
				vals[second], widths[second] = -1, 1
				wantJoin(t, vals, widths, nil, api.ErrOver)
				vals[second], widths[second] = 1, 19
				wantJoin(t, vals, widths, nil, api.ErrOver)
				vals[first], widths[first] = -1, 1
				vals[second], widths[second] = 10, 1
				wantJoin(t, vals, widths, nil, api.ErrArg)
				vals[first], widths[first] = 1, 19
				wantJoin(t, vals, widths, nil, api.ErrArg)
			}
		}
	}
}

func TestSplitExamples(t *testing.T) {
	for _, x := range []struct {
		l            []byte
		widths, want []int
	}{
		{nil, nil, nil},
		{[]byte{}, []int{}, nil},
		{nil, []int{0}, []int{0}},
		{nil, []int{0, 0, 0}, []int{0, 0, 0}},
		{[]byte{5}, []int{1}, []int{5}},
		{[]byte{5}, []int{0, 1, 0}, []int{0, 5, 0}},
		{[]byte{5, 6}, []int{1, 1}, []int{5, 6}},
		{[]byte{5, 6}, []int{2}, []int{56}},
		{[]byte{0, 5, 0, 0, 6}, []int{2, 3}, []int{5, 6}},
		{[]byte{0, 5, 0, 0, 6}, []int{3, 2}, []int{50, 6}},
		{[]byte{2, 1, 2, 3, 4, 5, 6, 7, 1, 0, 0, 0, 0, 5, 9, 0, 3, 0, 0}, []int{1, 7, 1, 1, 5, 3, 1}, []int{2, 1234567, 1, 0, 59, 30, 0}},
	} {
		wantSplit(t, x.l, x.widths, x.want, api.OK)
	}
}

func TestSplitAtAllCounts(t *testing.T) {
	for count := range 21 {
		for seed := range uint64(100) {
			vals, widths := noiseParts(count, seed+1000)
			wantSplit(t, digitsOf(joinedText(vals, widths)), widths, vals, api.OK)
		}
		wantSplit(t, bytes.Repeat([]byte{9}, 18*count), slices.Repeat([]int{18}, count), slices.Repeat([]int{power(18) - 1}, count), api.OK)
	}
}

func TestSplitOfWrongWidths(t *testing.T) {
	for count := 1; count < 21; count++ {
		for place := range count {
			for _, w := range noWidths() {
				_, widths := noiseParts(count, uint64(count)+3)
				widths[place] = w
				// Whatever there is to split, also a digit that is none: widths are asked first.
				for _, l := range [][]byte{nil, {1}, {10}, make([]byte, 18), bytes.Repeat([]byte{255}, 19), make([]byte, 400)} {
					wantSplit(t, l, widths, nil, api.ErrArg)
				}
			}
		}
	}
	// Widths that are none, but together as many as there are digits.
	for _, x := range []struct {
		count  int
		widths []int
	}{{19, []int{19}}, {20, []int{19, 1}}, {2, []int{3, -1}}, {2, []int{-1, 3}}, {0, []int{-1, 1}}, {20, []int{1, 19}}, {36, []int{36}}, {0, []int{-18, 18}}} {
		wantSplit(t, make([]byte, x.count), x.widths, nil, api.ErrArg)
	}
	wantSplit(t, nil, []int{math.MaxInt, math.MaxInt, 2}, nil, api.ErrArg)
	wantSplit(t, nil, []int{math.MinInt, math.MinInt}, nil, api.ErrArg)
}

func TestSplitOfTooManyWidths(t *testing.T) {
	for _, count := range []int{21, 22, 40, 1000} {
		for _, w := range []int{0, 1, 18, 19, -1} {
			widths := slices.Repeat([]int{w}, count)
			for _, fill := range []byte{0, 10} {
				wantSplit(t, bytes.Repeat([]byte{fill}, max(w, 0)*count), widths, nil, api.ErrArg)
				wantSplit(t, bytes.Repeat([]byte{fill}, 3), widths, nil, api.ErrArg)
			}
		}
	}
}

func TestSplitLength(t *testing.T) {
	for count := range 21 {
		vals, widths := noiseParts(count, uint64(count)+50)
		l := digitsOf(joinedText(vals, widths))
		for n := range len(l) {
			wantSplit(t, l[:n], widths, nil, api.ErrLength)
		}
		for _, more := range []int{1, 2, 18, 19, 400} {
			wantSplit(t, append(slices.Clone(l), make([]byte, more)...), widths, nil, api.ErrLength)
			// Length is asked ahead of digits.
			wantSplit(t, append(slices.Clone(l), bytes.Repeat([]byte{10}, more)...), widths, nil, api.ErrLength)
		}
	}
	wantSplit(t, []byte{10}, nil, nil, api.ErrLength)
	wantSplit(t, []byte{10, 10}, []int{1, 2}, nil, api.ErrLength)
	wantSplit(t, []byte{0}, []int{0}, nil, api.ErrLength)
}

func TestSplitDigit(t *testing.T) {
	for count := 1; count < 21; count++ {
		vals, widths := noiseParts(count, uint64(count)+80)
		l := digitsOf(joinedText(vals, widths))
		for place := range l {
			for _, wrong := range []byte{10, 15, '0', 128, 255} {
				bad := slices.Clone(l)
				bad[place] = wrong
				wantSplit(t, bad, widths, nil, api.ErrDigit)
			}
		}
	}
}

func TestPutAndGet(t *testing.T) {
	next := noise(1)
	for width := range 19 {
		numbers := []int{0, 1, 9, 10, power(width) - 1, power(width) / 10, power(width) / 2}
		for range 300 {
			numbers = append(numbers, next()%power(width))
		}
		for _, n := range numbers {
			if n >= power(width) {
				continue
			}
			l, e := Put(n, width)
			if got, f := Get(l); got != n || e != api.OK || f != api.OK || len(l) != width {
				t.Errorf("P12.3: %d, of width %d, was put as %v, %d, and got as %d, %d", n, width, l, e, got, f)
			}
		}
	}
}

func TestGetAndPut(t *testing.T) {
	next := noise(2)
	for width := range 19 {
		for range 300 {
			l := make([]byte, width)
			for i := range l {
				l[i] = byte(next() % 10)
			}
			n, e := Get(l)
			if again, f := Put(n, width); !bytes.Equal(again, l) || e != api.OK || f != api.OK {
				t.Errorf("P12.3: %v was got as %d, %d, and put as %v, %d", l, n, e, again, f)
			}
		}
	}
}

func TestJoinAndSplit(t *testing.T) {
	for seed := range uint64(2000) {
		vals, widths := noiseParts(int(seed%21), seed+5000)
		l, e := Join(vals, widths)
		if got, f := Split(l, widths); !slices.Equal(got, vals) || e != api.OK || f != api.OK {
			t.Errorf("P12.3: %v, of widths %v, was joined as %v, %d, and split as %v, %d", vals, widths, l, e, got, f)
		}
	}
}

func TestSplitAndJoin(t *testing.T) {
	next := noise(3)
	for seed := range uint64(2000) {
		vals, widths := noiseParts(int(seed%21), seed+9000)
		l := make([]byte, len(joinedText(vals, widths)))
		for i := range l {
			l[i] = byte(next() % 10)
		}
		got, e := Split(l, widths)
		if again, f := Join(got, widths); !bytes.Equal(again, l) || e != api.OK || f != api.OK {
			t.Errorf("P12.3: %v, of widths %v, was split as %v, %d, and joined as %v, %d", l, widths, got, e, again, f)
		}
	}
}

func TestArgumentsStay(t *testing.T) {
	vals, widths := noiseParts(20, 4)
	// Room behind what is handed in is nobody's to write to either.
	l := append(digitsOf(joinedText(vals, widths)), 1, 2, 3)[:len(joinedText(vals, widths))]
	keptVals, keptWidths, kept := slices.Clone(vals), slices.Clone(widths), slices.Clone(l[:cap(l)])
	Join(vals, widths)
	Split(l, widths)
	Split(l[:len(l)-1], widths)
	Get(l[:18])
	if !slices.Equal(vals, keptVals) || !slices.Equal(widths, keptWidths) || !bytes.Equal(l[:cap(l)], kept) {
		t.Errorf("R2: Join, Split or Get changed what was handed in")
	}
}

func TestAnswersStay(t *testing.T) {
	vals, widths := noiseParts(20, 5)
	text := joinedText(vals, widths)
	keptVals := slices.Clone(vals)
	put, _ := Put(123, 5)
	l, _ := Join(vals, widths)
	got, _ := Split(l, widths)
	one, _ := Join([]int{123}, []int{5})
	Put(999, 5)
	Join([]int{999}, []int{5})
	Split(make([]byte, len(l)), widths)
	clear(vals)
	if !bytes.Equal(put, []byte{0, 0, 1, 2, 3}) || !bytes.Equal(one, put) || !bytes.Equal(l, digitsOf(text)) {
		t.Errorf("R2: what Put or Join answered was changed later")
	}
	clear(l)
	clear(widths)
	if !slices.Equal(got, keptVals) {
		t.Errorf("R2: what Split answered was changed with its arguments")
	}
}
