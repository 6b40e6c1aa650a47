package tlv

import (
	"bytes"
	"math"
	"math/big"
	"slices"
	"testing"

	"gateline/api"
)

// isModel is whether l is right, by the document's words.
func isModel(l []api.Field) bool {
	for i, f := range l {
		if f.Tag < 1 || f.Tag > 255 || len(f.Value) > 255 {
			return false
		}
		if i > 0 && !(l[i-1].Tag < f.Tag) {
			return false
		}
	}
	return true
}

// putModel is what Put is to answer of l, by the document's words.
func putModel(l []api.Field) ([]byte, api.Errno) {
	if !isModel(l) {
		return nil, api.ErrArg
	}
	var b bytes.Buffer
	for _, f := range l {
		b.WriteByte(byte(f.Tag))
		b.WriteByte(byte(len(f.Value)))
		b.Write(f.Value)
	}
	return b.Bytes(), api.OK
}

// getModel is what Get is to answer of b, by the document's words.
func getModel(b []byte) ([]api.Field, api.Errno) {
	var l []api.Field
	for at := 0; at < len(b); {
		left := len(b) - at
		if left < 2 {
			return nil, api.ErrLength
		}
		if b[at] == 0 || len(l) > 0 && int(b[at]) <= l[len(l)-1].Tag {
			return nil, api.ErrOrder
		}
		count := int(b[at+1])
		if left-2 < count {
			return nil, api.ErrLength
		}
		l = append(l, api.Field{Tag: int(b[at]), Value: b[at+2 : at+2+count]})
		at += 2 + count
	}
	return l, api.OK
}

// noise is numbers without a pattern, always the same ones of one seed.
func noise(seed uint64) func() int {
	x := seed*0x9e3779b97f4a7c15 + 1
	return func() int {
		x ^= x << 13
		x ^= x >> 7
		x ^= x << 17
		return int(x >> 1)
	}
}

// noiseBytes is count bytes without a pattern.
func noiseBytes(count int, seed uint64) []byte {
	next := noise(seed)
	b := make([]byte, count)
	for i := range b {
		b[i] = byte(next() >> 20)
	}
	return b
}

// noiseFields is right fields without a pattern.
func noiseFields(seed uint64) []api.Field {
	next := noise(seed)
	l := []api.Field{}
	step := 1 + next()>>9%60
	for tag := 1 + next()>>9%step; tag < 256; tag += 1 + next()>>9%step {
		count := next() >> 9 % 9
		if next()>>9%20 == 0 {
			count = 256 - 1 - count
		}
		l = append(l, api.Field{Tag: tag, Value: noiseBytes(count, seed+uint64(tag))})
	}
	return l
}

// allTags is a field of each tag, with values of that size.
func allTags(size int) []api.Field {
	l := []api.Field{}
	for tag := 1; tag < 256; tag++ {
		l = append(l, api.Field{Tag: tag, Value: noiseBytes(size, uint64(tag))})
	}
	return l
}

// tagged is fields of those tags, without bytes.
func tagged(tags ...int) []api.Field {
	l := []api.Field{}
	for _, tag := range tags {
		l = append(l, api.Field{Tag: tag})
	}
	return l
}

// sized is a field of each size, with the tags from first on.
func sized(first int, sizes ...int) []api.Field {
	l := []api.Field{}
	for i, size := range sizes {
		l = append(l, api.Field{Tag: first + i, Value: make([]byte, size)})
	}
	return l
}

func cloned(l []api.Field) []api.Field {
	other := slices.Clone(l)
	for i, f := range l {
		other[i].Value = bytes.Clone(f.Value)
	}
	return other
}

func same(l, m []api.Field) bool {
	return slices.EqualFunc(l, m, func(f, g api.Field) bool {
		return f.Tag == g.Tag && bytes.Equal(f.Value, g.Value)
	})
}

func wantPut(t *testing.T, l []api.Field, want []byte) {
	t.Helper()
	got, e := Put(l)
	if !Is(l) || e != api.OK || !bytes.Equal(got, want) {
		t.Errorf("P17.1: Put(%v) = %v, %d, want %v, 0; Is is %v", l, got, e, want, Is(l))
	}
}

func wantWrong(t *testing.T, l []api.Field) {
	t.Helper()
	got, e := Put(l)
	if Is(l) || e != api.ErrArg || got != nil {
		t.Errorf("P17.1, R1: Put(%v) = %v, %d, want nil, %d; Is is %v", l, got, e, api.ErrArg, Is(l))
	}
}

// wantPutAsModel holds Is and Put of l against isModel and putModel.
func wantPutAsModel(t *testing.T, l []api.Field) {
	t.Helper()
	b, e := putModel(l)
	if e != api.OK {
		wantWrong(t, l)
		return
	}
	wantPut(t, l, b)
}

func wantGet(t *testing.T, b []byte, want []api.Field) {
	t.Helper()
	got, e := Get(b)
	if e != api.OK || !same(got, want) {
		t.Errorf("P17.2: Get(%v) = %v, %d, want %v, 0", b, got, e, want)
	}
}

func wantNone(t *testing.T, b []byte, code api.Errno) {
	t.Helper()
	got, e := Get(b)
	if e != code || got != nil {
		t.Errorf("P17.2, R1: Get(%v) = %v, %d, want nil, %d", b, got, e, code)
	}
}

// wantGetAsModel holds Get of b against getModel.
func wantGetAsModel(t *testing.T, b []byte) {
	t.Helper()
	l, e := getModel(b)
	if e != api.OK {
		wantNone(t, b, e)
		return
	}
	wantGet(t, b, l)
}

func wantNumber(t *testing.T, n int, want []byte) {
	t.Helper()
	got, e := Number(n)
	if e != api.OK || !bytes.Equal(got, want) {
		t.Errorf("P17.3: Number(%d) = %v, %d, want %v, 0", n, got, e, want)
	}
}

func wantValue(t *testing.T, b []byte, want int) {
	t.Helper()
	got, e := Value(b)
	if e != api.OK || got != want {
		t.Errorf("P17.3: Value(%v) = %d, %d, want %d, 0", b, got, e, want)
	}
}

func wantNoValue(t *testing.T, b []byte) {
	t.Helper()
	got, e := Value(b)
	if e != api.ErrLength || got != 0 {
		t.Errorf("P17.3, R1: Value(%v) = %d, %d, want 0, %d", b, got, e, api.ErrLength)
	}
}

// examples is fields and their bytes, written out by hand.
func examples() []struct {
	l []api.Field
	b []byte
} {
	return []struct {
		l []api.Field
		b []byte
	}{
		{nil, nil},
		{[]api.Field{}, []byte{}},
		{[]api.Field{{Tag: 1}}, []byte{1, 0}},
		{[]api.Field{{Tag: 255}}, []byte{255, 0}},
		{[]api.Field{{Tag: 1, Value: []byte{}}}, []byte{1, 0}},
		{[]api.Field{{Tag: 1, Value: []byte{0}}}, []byte{1, 1, 0}},
		{[]api.Field{{Tag: 7, Value: []byte{1, 44}}}, []byte{7, 2, 1, 44}},
		{[]api.Field{{Tag: 255, Value: []byte{255}}}, []byte{255, 1, 255}},
		{[]api.Field{{Tag: 1}, {Tag: 2}}, []byte{1, 0, 2, 0}},
		{[]api.Field{{Tag: 1, Value: []byte{3}}, {Tag: 2, Value: []byte{7}}, {Tag: 3, Value: []byte{1}}}, []byte{1, 1, 3, 2, 1, 7, 3, 1, 1}},
		{[]api.Field{{Tag: 4, Value: []byte{9, 8, 7}}, {Tag: 128}, {Tag: 254, Value: []byte{0, 0}}}, []byte{4, 3, 9, 8, 7, 128, 0, 254, 2, 0, 0}},
		{[]api.Field{{Tag: 1}, {Tag: 255, Value: []byte{1, 0}}}, []byte{1, 0, 255, 2, 1, 0}},
		{[]api.Field{{Tag: 1, Value: make([]byte, 255)}}, append([]byte{1, 255}, make([]byte, 255)...)},
		{[]api.Field{{Tag: 1, Value: make([]byte, 128)}, {Tag: 2}}, append(append([]byte{1, 128}, make([]byte, 128)...), 2, 0)},
	}
}

func TestPutExamples(t *testing.T) {
	for _, x := range examples() {
		wantPut(t, x.l, x.b)
	}
}

func TestGetExamples(t *testing.T) {
	for _, x := range examples() {
		wantGet(t, x.b, x.l)
	}
}

func TestTags(t *testing.T) {
	for tag := -300; tag < 600; tag++ {
		for _, v := range [][]byte{nil, {5}, make([]byte, 255)} {
			l := []api.Field{{Tag: tag, Value: v}}
			wantPutAsModel(t, l)
			if tag < 1 || tag > 255 {
				wantWrong(t, l)
			}
		}
	}
	for _, tag := range []int{math.MinInt, math.MinInt + 1, math.MaxInt, math.MaxInt - 254, 1 << 8, 1<<16 + 1, 1<<32 + 1, 1<<62 + 1, -255, -256, -1} {
		wantWrong(t, tagged(tag))
		wantWrong(t, tagged(1, tag))
		wantWrong(t, tagged(tag, 255))
		wantWrong(t, tagged(tag, tag))
	}
}

func TestTagsRise(t *testing.T) {
	for first := -2; first < 259; first++ {
		for second := -2; second < 259; second++ {
			wantPutAsModel(t, tagged(first, second))
		}
	}
	for _, l := range [][]api.Field{
		tagged(1, 1), tagged(2, 1), tagged(255, 255), tagged(255, 1), tagged(1, 2, 2), tagged(1, 2, 1), tagged(2, 2, 3), tagged(1, 3, 2),
		tagged(3, 1, 2), tagged(1, 2, 3, 3), tagged(0), tagged(0, 1), tagged(0, 1, 2), tagged(1, 2, 256), tagged(254, 255, 256), tagged(-1, 1),
	} {
		wantWrong(t, l)
	}
}

// Of all tags, each place in turn has another one.
func TestTagsAtEachPlace(t *testing.T) {
	for place := range 255 {
		for _, tag := range []int{-1, 0, 1, place - 1, place, place + 1, place + 2, place + 3, 255, 256, 257, place + 257} {
			l := allTags(1)
			l[place].Tag = tag
			wantPutAsModel(t, l)
			if tag != place+1 {
				wantWrong(t, l)
			}
		}
		without := slices.Delete(allTags(0), place, place+1)
		wantPut(t, without, mustPut(without))
	}
}

// mustPut is the bytes of right fields, by the document's words.
func mustPut(l []api.Field) []byte {
	b, e := putModel(l)
	if e != api.OK {
		panic("these fields are not right")
	}
	return b
}

func TestValueSizes(t *testing.T) {
	for size := range 600 {
		v := noiseBytes(size, uint64(size))
		for _, l := range [][]api.Field{
			{{Tag: 1, Value: v}},
			{{Tag: 255, Value: v}},
			{{Tag: 1, Value: v}, {Tag: 2}},
			{{Tag: 1}, {Tag: 2, Value: v}},
			{{Tag: 1, Value: []byte{1}}, {Tag: 9, Value: v}, {Tag: 200, Value: []byte{2, 3}}},
		} {
			if size > 255 {
				wantWrong(t, l)
			} else {
				wantPut(t, l, mustPut(l))
				wantGet(t, mustPut(l), l)
			}
		}
	}
	for _, size := range []int{256, 257, 511, 512, 65536, 65537} {
		wantWrong(t, sized(1, size))
		wantWrong(t, sized(1, 1, size))
		wantWrong(t, sized(1, size, 1))
		wantWrong(t, sized(253, 255, 255, size))
	}
	wantPut(t, sized(254, 255, 255), mustPut(sized(254, 255, 255)))
}

func TestFullList(t *testing.T) {
	for _, size := range []int{0, 1, 254, 255} {
		l := allTags(size)
		b, e := Put(l)
		if e != api.OK || len(b) != 255*(2+size) {
			t.Errorf("P17.1: 255 fields of %d bytes are %d, %d", size, len(b), e)
		}
		wantPut(t, l, mustPut(l))
		wantGet(t, mustPut(l), l)
		wantWrong(t, append(l, api.Field{Tag: 256}))
		wantWrong(t, append(l, api.Field{Tag: 255}))
		for tag := range 256 {
			wantNone(t, append(bytes.Clone(b), byte(tag), 0), api.ErrOrder)
			wantNone(t, append(bytes.Clone(b), byte(tag)), api.ErrLength)
		}
	}
	wantWrong(t, make([]api.Field, 100000))
}

func TestGetOfEachTwoBytes(t *testing.T) {
	for n := range 256 {
		wantNone(t, []byte{byte(n)}, api.ErrLength)
	}
	for n := range 65536 {
		tag, count := n/256, n%256
		b := []byte{byte(tag), byte(count)}
		switch {
		case tag == 0:
			wantNone(t, b, api.ErrOrder)
		case count > 0:
			wantNone(t, b, api.ErrLength)
		default:
			wantGet(t, b, tagged(tag))
		}
	}
}

func TestGetOfEachTwoTags(t *testing.T) {
	for first := range 256 {
		for second := range 256 {
			b := []byte{byte(first), 1, 9, byte(second), 0}
			if first == 0 || second <= first {
				wantNone(t, b, api.ErrOrder)
			} else {
				wantGet(t, b, []api.Field{{Tag: first, Value: []byte{9}}, {Tag: second}})
			}
		}
	}
}

// All inputs of up to 8 bytes, of few that matter.
func TestGetOfAllShort(t *testing.T) {
	bytesOf := []byte{0, 1, 2, 3, 255}
	for count := range 9 {
		b := make([]byte, count)
		for n := range int(math.Pow(float64(len(bytesOf)), float64(count))) {
			for i := range b {
				b[i] = bytesOf[n%len(bytesOf)]
				n /= len(bytesOf)
			}
			wantGetAsModel(t, b)
		}
	}
}

func TestGetErrorsInOrder(t *testing.T) {
	for _, x := range []struct {
		b []byte
		e api.Errno
	}{
		// Less than two bytes are told ahead of the tag.
		{[]byte{0}, api.ErrLength},
		{[]byte{1, 0, 1}, api.ErrLength},
		{[]byte{5, 0, 0}, api.ErrLength},
		{[]byte{5, 1, 9, 3}, api.ErrLength},
		// The tag is told ahead of bytes that fail.
		{[]byte{0, 0}, api.ErrOrder},
		{[]byte{0, 1}, api.ErrOrder},
		{[]byte{0, 255}, api.ErrOrder},
		{[]byte{0, 1, 5}, api.ErrOrder},
		{[]byte{5, 0, 5, 9}, api.ErrOrder},
		{[]byte{5, 0, 4, 9}, api.ErrOrder},
		{[]byte{5, 0, 0, 255}, api.ErrOrder},
		{[]byte{255, 0, 1, 1}, api.ErrOrder},
		// Bytes that fail.
		{[]byte{1, 1}, api.ErrLength},
		{[]byte{1, 255}, api.ErrLength},
		{[]byte{1, 3, 0, 0}, api.ErrLength},
		{[]byte{1, 0, 2, 1}, api.ErrLength},
		{[]byte{1, 0, 2, 2, 0}, api.ErrLength},
		// What is ahead is told ahead: the bytes of a field that is too long are not looked at.
		{[]byte{1, 4, 0, 0, 0}, api.ErrLength},
		{[]byte{2, 0, 1, 0, 3}, api.ErrOrder},
		{[]byte{2, 0, 1, 0, 3, 9}, api.ErrOrder},
		{[]byte{1, 0, 0, 0, 2, 9}, api.ErrOrder},
		{[]byte{3, 2, 2, 0, 3, 0}, api.ErrOrder},
		{[]byte{3, 2, 2, 0, 4}, api.ErrLength},
	} {
		wantNone(t, x.b, x.e)
		wantGetAsModel(t, x.b)
	}
}

// A field that says too many bytes, by all numbers.
func TestGetOfFewBytes(t *testing.T) {
	for size := range 256 {
		for have := range 300 {
			b := append([]byte{9, byte(size)}, make([]byte, have)...)
			switch {
			case have == size:
				wantGet(t, b, []api.Field{{Tag: 9, Value: make([]byte, size)}})
			case have < size:
				wantNone(t, b, api.ErrLength)
			case have == size+1:
				wantNone(t, b, api.ErrLength)
			default:
				wantNone(t, b, api.ErrOrder)
			}
		}
	}
}

func TestGetOfCutFields(t *testing.T) {
	for seed := range uint64(40) {
		l := noiseFields(seed)
		b := mustPut(l)
		wholes := map[int]int{}
		for n := range len(l) + 1 {
			wholes[len(mustPut(l[:n]))] = n
		}
		for end := range len(b) {
			if n, ok := wholes[end]; ok {
				wantGet(t, b[:end], l[:n])
			} else {
				wantNone(t, b[:end], api.ErrLength)
			}
		}
	}
}

func TestGetOfAnyBytes(t *testing.T) {
	for n := range 20000 {
		b := noiseBytes(n%50, uint64(n))
		// Small bytes, so that more of them are fields.
		for i := range b {
			if n%3 > 0 {
				b[i] %= byte(4 + n%5)
			}
		}
		wantGetAsModel(t, b)
	}
	for seed := range uint64(3000) {
		b := mustPut(noiseFields(seed))
		if len(b) == 0 {
			continue
		}
		next := noise(seed)
		i := next() >> 9 % len(b)
		b[i] = byte(next() >> 20)
		wantGetAsModel(t, b)
		wantGetAsModel(t, slices.Delete(b, i, i+1))
	}
	wantNone(t, make([]byte, 1<<20), api.ErrOrder)
	wantNone(t, bytes.Repeat([]byte{1}, 1<<20), api.ErrOrder)
	wantNone(t, bytes.Repeat([]byte{255}, 1<<20), api.ErrOrder)
}

// numbers is 0, all that are near a power of 2, the last ones, and some without a pattern.
func numbers() []int {
	l := []int{0, 300, 9999999, 99999, 999, api.MaxSerial, math.MaxInt, math.MaxInt - 1}
	for power := range 63 {
		l = append(l, 1<<power-1, 1<<power, (1<<power-1)+2)
	}
	next := noise(3)
	for range 5000 {
		l = append(l, next()>>(next()>>9%63))
	}
	return l
}

func TestNumberExamples(t *testing.T) {
	for _, x := range []struct {
		n    int
		want []byte
	}{
		{0, nil},
		{1, []byte{1}},
		{99, []byte{99}},
		{255, []byte{255}},
		{256, []byte{1, 0}},
		{300, []byte{1, 44}},
		{65535, []byte{255, 255}},
		{65536, []byte{1, 0, 0}},
		{1<<24 - 1, []byte{255, 255, 255}},
		{1 << 24, []byte{1, 0, 0, 0}},
		{1 << 31, []byte{128, 0, 0, 0}},
		{1<<32 - 1, []byte{255, 255, 255, 255}},
		{1 << 32, []byte{1, 0, 0, 0, 0}},
		{api.MaxSerial, []byte{1, 0, 0, 0, 0, 0}},
		{1<<48 - 1, []byte{255, 255, 255, 255, 255, 255}},
		{1<<56 - 1, []byte{255, 255, 255, 255, 255, 255, 255}},
		{1 << 56, []byte{1, 0, 0, 0, 0, 0, 0, 0}},
		{math.MaxInt, []byte{127, 255, 255, 255, 255, 255, 255, 255}},
	} {
		wantNumber(t, x.n, x.want)
		if 0 < x.n && x.n < 1<<56 {
			wantValue(t, x.want, x.n)
		} else {
			wantNoValue(t, x.want)
		}
	}
}

func TestNumberOfMany(t *testing.T) {
	for n := range 200000 {
		wantNumber(t, n, big.NewInt(int64(n)).Bytes())
	}
	for _, n := range numbers() {
		wantNumber(t, n, big.NewInt(int64(n)).Bytes())
	}
}

func TestNumberBelowZero(t *testing.T) {
	for _, n := range append(numbers(), -1-math.MaxInt, -256, -255) {
		if n == 0 {
			continue
		}
		if n > 0 {
			n = -n
		}
		if got, e := Number(n); e != api.ErrArg || got != nil {
			t.Errorf("P17.3, R1: Number(%d) = %v, %d, want nil, %d", n, got, e, api.ErrArg)
		}
	}
}

func TestValueOfShort(t *testing.T) {
	wantNoValue(t, nil)
	wantNoValue(t, []byte{})
	for n := range 256 {
		if n == 0 {
			wantNoValue(t, []byte{0})
		} else {
			wantValue(t, []byte{byte(n)}, n)
		}
	}
	for n := range 65536 {
		b := []byte{byte(n / 256), byte(n % 256)}
		if n < 256 {
			wantNoValue(t, b)
		} else {
			wantValue(t, b, n)
		}
	}
}

func TestValueOfEachLength(t *testing.T) {
	for count := 1; count < 40; count++ {
		for seed := range uint64(50) {
			b := noiseBytes(count, seed+uint64(count)*100)
			b[0] = byte(1 + seed*5)
			if count > 7 {
				wantNoValue(t, b)
			} else {
				wantValue(t, b, int(new(big.Int).SetBytes(b).Int64()))
			}
			b[0] = 0
			wantNoValue(t, b)
		}
		full, least := bytes.Repeat([]byte{255}, count), append([]byte{1}, make([]byte, count-1)...)
		if count > 7 {
			wantNoValue(t, full)
			wantNoValue(t, least)
		} else {
			wantValue(t, full, 1<<(8*count)-1)
			wantValue(t, least, 1<<(8*count-8))
		}
		wantNoValue(t, make([]byte, count))
		wantNoValue(t, append([]byte{0}, full...))
	}
	wantNoValue(t, bytes.Repeat([]byte{1}, 100000))
}

func TestPutIsGot(t *testing.T) {
	for seed := range uint64(3000) {
		l := noiseFields(seed)
		b, e := Put(l)
		got, f := Get(b)
		if e != api.OK || f != api.OK || !same(got, l) || !Is(got) {
			t.Errorf("P17.4: %v was put as %v, %d, and got as %v, %d", l, b, e, got, f)
		}
	}
}

func TestGotIsPut(t *testing.T) {
	next := noise(5)
	got := 0
	for range 200000 {
		b := make([]byte, next()>>9%10)
		for i := range b {
			b[i] = byte(next() >> 9 % 6)
		}
		l, e := Get(b)
		if e != api.OK {
			continue
		}
		got++
		if again, f := Put(l); f != api.OK || !bytes.Equal(again, b) {
			t.Errorf("P17.4: %v was got as %v, and put as %v, %d", b, l, again, f)
		}
	}
	if got < 10000 {
		t.Errorf("P17.4: of 200000 inputs %d are got", got)
	}
}

func TestNumberIsTold(t *testing.T) {
	for _, n := range numbers() {
		b, e := Number(n)
		if e != api.OK {
			t.Errorf("P17.4: Number(%d) is %d", n, e)
		}
		if n == 0 || n >= 1<<56 {
			wantNoValue(t, b)
		} else {
			wantValue(t, b, n)
		}
	}
}

func TestToldIsNumber(t *testing.T) {
	for seed := range uint64(20000) {
		b := noiseBytes(1+int(seed)%7, seed)
		n, e := Value(b)
		if b[0] == 0 {
			wantNoValue(t, b)
			continue
		}
		if again, f := Number(n); e != api.OK || f != api.OK || !bytes.Equal(again, b) {
			t.Errorf("P17.4: %v is %d, %d, and that is %v, %d", b, n, e, again, f)
		}
	}
}

func TestArgumentsStay(t *testing.T) {
	for seed := range uint64(200) {
		// Room behind what is handed in is nobody's to write to either: here all values, and what is behind them, lie in one list.
		whole := noiseBytes(600, seed)
		l := []api.Field{{Tag: 3, Value: whole[10:20]}, {Tag: 4, Value: whole[20:20]}, {Tag: 9, Value: whole[20:275]}}
		b := append(mustPut(l), 7, 7, 7)
		keptWhole, kept, keptBytes := bytes.Clone(whole), cloned(l), bytes.Clone(b)
		Is(l)
		put, _ := Put(l)
		clear(append(put, 9))
		Get(b)
		got, _ := Get(b[:len(b)-3])
		for _, f := range got {
			clear(append(f.Value, 9))
		}
		Value(b[:5])
		if !bytes.Equal(b, keptBytes) {
			t.Errorf("R2: Get or Value changed what was handed in, or what was told has its memory")
		}
		if !same(l, kept) || !bytes.Equal(whole, keptWhole) {
			t.Errorf("R2: Put changed what was handed in, or what was told has its memory")
		}
	}
}

func TestAnswersStay(t *testing.T) {
	for seed := range uint64(200) {
		l := noiseFields(seed)
		want := cloned(l)
		b, _ := Put(l)
		for i := range l {
			clear(l[i].Value)
			l[i].Tag = 0
		}
		if !bytes.Equal(b, mustPut(want)) {
			t.Errorf("R2: what Put told was changed with its argument")
		}
		got, _ := Get(b)
		clear(b)
		if !same(got, want) {
			t.Errorf("R2: what Get told was changed with its argument")
		}
	}
}

// A value that grows, or is written to, changes no other one.
func TestValuesApart(t *testing.T) {
	for seed := range uint64(200) {
		l := noiseFields(seed)
		b := mustPut(l)
		for i := range l {
			got, _ := Get(b)
			got[i].Value = append(got[i].Value, 201, 202, 203, 204)
			for k := range got[i].Value {
				got[i].Value[k]++
			}
			got[i].Value = l[i].Value
			if !same(got, l) {
				t.Errorf("R2: of %v, the value of %d is not apart from the others", l, l[i].Tag)
			}
		}
	}
}

func TestSameAnswersAgain(t *testing.T) {
	l := noiseFields(11)
	b := mustPut(l)
	for range 3 {
		wantPut(t, l, b)
		wantGet(t, b, l)
		wantNone(t, append(bytes.Clone(b), 0, 0), api.ErrOrder)
		wantNumber(t, 300, []byte{1, 44})
		wantValue(t, []byte{1, 44}, 300)
		wantNoValue(t, []byte{0, 1, 44})
	}
}
