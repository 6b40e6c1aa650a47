package swipe

import (
	"bytes"
	"slices"
	"strings"
	"testing"

	"gateline/api"
	"gateline/track"
)

// charTexts is the characters of the values from 0 on, their lowest bits first, as chapter 10 counts them out.
func charTexts() []string {
	return []string{"00001", "10000", "01000", "11001", "00100", "10101", "01101", "11100", "00010", "10011", "01011", "11010", "00111", "10110", "01110", "11111"}
}

// textOf is the characters of those values, one behind the other.
func textOf(values ...int) string {
	s := ""
	for _, v := range values {
		s += charTexts()[v]
	}
	return s
}

// bytesOf is bits as bytes, the highest bit of each first, with as many zeros behind them as fill the last one.
func bytesOf(text string) []byte {
	text = strings.ReplaceAll(text, " ", "")
	for len(text)%8 != 0 {
		text += "0"
	}
	b := make([]byte, len(text)/8)
	for i := range b {
		for _, c := range text[8*i : 8*i+8] {
			b[i] = b[i]*2 + byte(c-'0')
		}
	}
	return b
}

// bitsText is bytes as bits, the highest bit of each first.
func bitsText(b []byte) string {
	s := strings.Builder{}
	for _, x := range b {
		for place := 7; place >= 0; place-- {
			s.WriteByte('0' + x>>place&1)
		}
	}
	return s.String()
}

// turned is b with its bits the other way round, told by the text of the bits.
func turned(b []byte) []byte {
	text := []byte(bitsText(b))
	slices.Reverse(text)
	return bytesOf(string(text))
}

// trackOf is the track of those digits, told by the text of its bits.
func trackOf(digits []byte) []byte {
	values, sum := []int{11}, 11^15
	for _, d := range digits {
		values = append(values, int(d))
		sum ^= int(d)
	}
	return bytesOf(textOf(append(values, 15, sum)...))
}

// noise is n bytes without a pattern, always the same ones of one seed.
func noise(n int, seed uint32) []byte {
	b := make([]byte, n)
	x := seed*2654435761 + 1
	for i := range b {
		x = x*1664525 + 1013904223
		b[i] = byte(x >> 24)
	}
	return b
}

// noiseDigits is n digits without a pattern.
func noiseDigits(n int, seed uint32) []byte {
	d := noise(n, seed)
	for i := range d {
		d[i] %= 10
	}
	return d
}

// same tries Read(b) against what the document asks of it, by chapter 11's Get.
func same(t *testing.T, b []byte) {
	t.Helper()
	want, e := track.Get(b)
	round := false
	if e != api.OK {
		if other, f := track.Get(turned(b)); f == api.OK {
			want, round, e = other, true, api.OK
		}
	}
	got, is, f := Read(b)
	if !bytes.Equal(got, want) || is != round || f != e {
		t.Errorf("P14.2: Read(%v) = %v, %v, %d, want %v, %v, %d", b, got, is, f, want, round, e)
	}
	if f != api.OK && (got != nil || is) {
		t.Errorf("R1: Read(%v) = %v, %v, with the error %d", b, got, is, f)
	}
}

func TestTurnExamples(t *testing.T) {
	for _, x := range []struct {
		b, want []byte
	}{
		{nil, nil}, {[]byte{}, nil},
		{[]byte{0}, []byte{0}}, {[]byte{255}, []byte{255}}, {[]byte{1}, []byte{128}}, {[]byte{128}, []byte{1}}, {[]byte{212}, []byte{43}}, {[]byte{15}, []byte{240}},
		{[]byte{1, 0}, []byte{0, 128}}, {[]byte{0, 1}, []byte{128, 0}}, {[]byte{212, 39}, []byte{228, 43}}, {[]byte{1, 2, 3}, []byte{192, 64, 128}},
		{[]byte{212, 39, 243, 128}, []byte{1, 207, 228, 43}}, {[]byte{215, 200}, []byte{19, 235}},
		{[]byte{0, 0, 255}, []byte{255, 0, 0}}, {[]byte{24, 24}, []byte{24, 24}},
	} {
		if got := Turn(x.b); !bytes.Equal(got, x.want) {
			t.Errorf("P14.1: Turn(%v) = %v, want %v", x.b, got, x.want)
		}
	}
}

func TestTurnOneBit(t *testing.T) {
	for n := 1; n <= 55; n++ {
		for i := range 8 * n {
			b, want := make([]byte, n), make([]byte, n)
			b[i/8] = 128 >> (i % 8)
			want[n-1-i/8] = 1 << (i % 8)
			if got := Turn(b); !bytes.Equal(got, want) {
				t.Errorf("P14.1: Turn of %d bytes with bit %d = %v, want %v", n, i, got, want)
			}
		}
	}
}

func TestTurnAll(t *testing.T) {
	for x := range 1 << 16 {
		for _, b := range [][]byte{{byte(x)}, {byte(x >> 8), byte(x)}} {
			if got := Turn(b); !bytes.Equal(got, turned(b)) {
				t.Errorf("P14.1: Turn(%v) = %v, want %v", b, got, turned(b))
			}
		}
	}
	for n := range 200 {
		for seed := range uint32(10) {
			b := noise(n, seed)
			if got := Turn(b); !bytes.Equal(got, turned(b)) {
				t.Errorf("P14.1: Turn(%v) = %v, want %v", b, got, turned(b))
			}
		}
	}
	if b := noise(70000, 5); !bytes.Equal(Turn(b), turned(b)) {
		t.Errorf("P14.1: 70000 bytes are turned wrongly")
	}
}

func TestTurnTwice(t *testing.T) {
	for n := range 200 {
		for seed := range uint32(10) {
			b := noise(n, seed+30)
			if got := Turn(Turn(b)); !bytes.Equal(got, b) {
				t.Errorf("P14.3: %v turned, and turned again, is %v", b, got)
			}
		}
	}
	for _, n := range []int{0, 1, 2, 49, 50, 51, 1000, 70000} {
		for _, x := range []byte{0, 1, 128, 255} {
			b := bytes.Repeat([]byte{x}, n)
			if got := Turn(Turn(b)); !bytes.Equal(got, b) {
				t.Errorf("P14.3: %d bytes %d, turned, and turned again, are others", n, x)
			}
		}
	}
}

func TestReadExamples(t *testing.T) {
	for _, x := range []struct {
		b      []byte
		digits []byte
		round  bool
	}{
		{[]byte{212, 39, 243, 128}, []byte{1, 9}, false}, {[]byte{1, 207, 228, 43}, []byte{1, 9}, true},
		{[]byte{215, 200}, nil, false}, {[]byte{19, 235}, nil, true},
		{bytesOf("11010 00001 11111 00100"), []byte{0}, false}, {bytesOf("0000 00100 11111 10000 01011"), []byte{0}, true},
		{bytesOf("11010 00010 11001 11111 11111"), []byte{8, 3}, false}, {bytesOf("0000000 11111 11111 10011 01000 01011"), []byte{8, 3}, true},
		{bytesOf("11010 10000 01000 11001 00100 10101 11111 10101"), []byte{1, 2, 3, 4, 5}, false}, {bytesOf("10101 11111 10101 00100 10011 00010 00001 01011"), []byte{1, 2, 3, 4, 5}, true},
	} {
		got, is, e := Read(x.b)
		if !bytes.Equal(got, x.digits) || is != x.round || e != api.OK {
			t.Errorf("P14.2: Read(%v) = %v, %v, %d, want %v, %v", x.b, got, is, e, x.digits, x.round)
		}
	}
}

func TestReadErrors(t *testing.T) {
	for _, x := range []struct {
		what string
		b    []byte
		want api.Errno
	}{
		{"nothing", nil, api.ErrLength}, {"no bytes", []byte{}, api.ErrLength},
		{"one byte", []byte{212}, api.ErrLength}, {"one byte, turned", []byte{43}, api.ErrLength},
		{"51 bytes", make([]byte, 51), api.ErrLength}, {"51 bytes, each a start", bytes.Repeat([]byte{212}, 51), api.ErrLength},
		{"zeros", make([]byte, 10), api.ErrStart}, {"ones", bytes.Repeat([]byte{255}, 10), api.ErrStart},
		{"no start, turned no value", turned(bytesOf(textOf(11) + "00000" + textOf(15, 4))), api.ErrStart},
		{"no start, turned a wrong Sum", turned(bytesOf(textOf(11, 1, 9, 15, 0))), api.ErrStart},
		{"no start, turned a digit too great", turned(bytesOf(textOf(11, 10, 15, 14))), api.ErrStart},
		{"no start, turned no end", turned(bytesOf(textOf(11, 1, 2, 3, 4, 5, 6, 7))), api.ErrStart},
		{"no start, turned too long", turned(bytesOf(textOf(11, 1, 9, 15, 12) + "0000000 00000000")), api.ErrStart},
		{"no end", bytesOf(textOf(11, 1, 2, 3, 4, 5, 6, 7)), api.ErrEnd},
		{"nothing behind 15", bytesOf(textOf(11, 1, 15) + "0"), api.ErrEnd},
		{"no value", bytesOf(textOf(11) + "00000" + textOf(15, 4)), api.ErrParity},
		{"a digit too great", bytesOf(textOf(11, 10, 15, 14)), api.ErrDigit},
		{"a wrong Sum", bytesOf(textOf(11, 1, 9, 15, 0)), api.ErrSum},
		{"a wrong Sum, and nothing left over", bytesOf(textOf(11, 1, 2, 3, 4, 5, 15, 0)), api.ErrSum},
		{"too long", bytesOf(textOf(11, 1, 9, 15, 12) + "0000000 00000000"), api.ErrLength},
		{"a bit left over is 1", bytesOf(textOf(11, 1, 9, 15, 12) + "0000001"), api.ErrLength},
		{"turned no value, both starts", bytesOf(textOf(11, 10) + "00000 00000 00000 00000 00000" + "01011"), api.ErrDigit},
		{"turned a digit too great, both starts", bytesOf(textOf(11) + "00000 00000 00000 00000 00000" + "11010 01011"), api.ErrParity},
	} {
		if got, is, e := Read(x.b); got != nil || is || e != x.want {
			t.Errorf("P14.2: %s: Read(%v) = %v, %v, %d, want %d", x.what, x.b, got, is, e, x.want)
		}
		same(t, x.b)
	}
}

func TestReadLong(t *testing.T) {
	whole := trackOf(noiseDigits(77, 1))
	if got, is, e := Read(turned(whole)); len(got) != 77 || !is || e != api.OK {
		t.Errorf("P14.2: Read of 77 digits, turned = %v, %v, %d", got, is, e)
	}
	more := trackOf(noiseDigits(78, 1))
	for _, b := range [][]byte{append(slices.Clone(whole), 0), append([]byte{0}, turned(whole)...), more, turned(more), make([]byte, 100), noise(70000, 1)} {
		if got, is, e := Read(b); got != nil || is || e != api.ErrLength {
			t.Errorf("P14.2: Read of %d bytes = %v, %v, %d, want %d", len(b), got, is, e, api.ErrLength)
		}
	}
}

func TestReadAllShort(t *testing.T) {
	for x := range 256 {
		same(t, []byte{byte(x)})
	}
	for x := range 1 << 16 {
		same(t, []byte{byte(x >> 8), byte(x)})
	}
	for x := range 1 << 19 {
		b := []byte{byte(0b11010<<3 | x>>16), byte(x >> 8), byte(x)}
		same(t, b)
		same(t, turned(b))
	}
}

func TestReadNoise(t *testing.T) {
	for seed := range uint32(2000) {
		b := noise(int(seed%56), seed)
		same(t, b)
		if len(b) > 0 {
			b[0] = 0b11010<<3 | b[0]&7
			same(t, b)
			same(t, turned(b))
		}
	}
	// Characters that are right mostly, with a 15 now and then, come further.
	for seed := range uint32(5000) {
		text := "11010"
		for _, x := range noise(int(seed%80), seed+9) {
			text += charTexts()[min(int(x)%20, 15)]
		}
		same(t, bytesOf(text))
		same(t, turned(bytesOf(text)))
	}
}

func TestReadOneBitChanged(t *testing.T) {
	for n := range 78 {
		b := trackOf(noiseDigits(n, uint32(n)))
		for _, side := range [][]byte{b, turned(b)} {
			for i := range 8 * len(side) {
				side[i/8] ^= 128 >> (i % 8)
				same(t, side)
				side[i/8] ^= 128 >> (i % 8)
			}
		}
	}
}

func TestPutAndRead(t *testing.T) {
	for n := range 78 {
		for seed := range uint32(20) {
			readBoth(t, noiseDigits(n, seed+50))
		}
		for d := range byte(10) {
			readBoth(t, bytes.Repeat([]byte{d}, n))
		}
	}
	for x := range 1000 {
		readBoth(t, []byte{byte(x / 100), byte(x / 10 % 10), byte(x % 10)})
	}
}

// TestPutAndReadFiveDigits tries all tracks of 8 characters. Of as many as go into whole bytes alone, no bits are left over, so that a turned one may begin as a track does; but 15 stands next to that beginning then, and a track of two bytes would end there. So a turned track is never a track by itself.
func TestPutAndReadFiveDigits(t *testing.T) {
	for x := range 100000 {
		readBoth(t, []byte{byte(x / 10000), byte(x / 1000 % 10), byte(x / 100 % 10), byte(x / 10 % 10), byte(x % 10)})
	}
}

// readBoth tries P14.3 at the track of those digits.
func readBoth(t *testing.T, digits []byte) {
	t.Helper()
	b, _ := track.Put(digits)
	if got, is, e := Read(b); !bytes.Equal(got, digits) || is || e != api.OK {
		t.Errorf("P14.3: %v was put, and read as %v, %v, %d", digits, got, is, e)
	}
	if got, is, e := Read(Turn(b)); !bytes.Equal(got, digits) || !is || e != api.OK {
		t.Errorf("P14.3: %v was put and turned, and read as %v, %v, %d", digits, got, is, e)
	}
}

func TestArgumentsStay(t *testing.T) {
	b := trackOf(noiseDigits(50, 1))
	for _, x := range [][]byte{b, turned(b), noise(30, 2), append(slices.Clone(b), 0), b[:20]} {
		before := slices.Clone(x[:cap(x)])
		Turn(x)
		Read(x)
		if !bytes.Equal(x[:cap(x)], before) {
			t.Errorf("R2: Turn or Read changed what was handed in")
		}
	}
}

func TestAnswersStay(t *testing.T) {
	digits := noiseDigits(20, 1)
	for _, b := range [][]byte{trackOf(digits), turned(trackOf(digits)), {0}, {24, 24}} {
		before := slices.Clone(b)
		round := Turn(b)
		got, _, e := Read(b)
		clear(b)
		Turn(noise(30, 3))
		Read(trackOf(noiseDigits(20, 2)))
		if !bytes.Equal(round, turned(before)) {
			t.Errorf("R2: what Turn answered was changed later")
		}
		if e == api.OK && !bytes.Equal(got, digits) {
			t.Errorf("R2: what Read answered was changed later")
		}
	}
}

func TestSameAgain(t *testing.T) {
	for seed := range uint32(50) {
		digits := noiseDigits(int(seed), seed)
		b := turned(trackOf(digits))
		for range 3 {
			Read(trackOf(noiseDigits(7, seed)))
			Read(noise(20, seed))
			if got, is, e := Read(b); !bytes.Equal(got, digits) || !is || e != api.OK {
				t.Errorf("R2: Read(%v) = %v, %v, %d, another time", b, got, is, e)
			}
		}
	}
}
