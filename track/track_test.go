package track

import (
	"bytes"
	"slices"
	"strings"
	"testing"

	"gateline/api"
)

// charTexts is the characters of the values from 0 on, their lowest bits first, as chapter 10 counts them out.
func charTexts() []string {
	return []string{"00001", "10000", "01000", "11001", "00100", "10101", "01101", "11100", "00010", "10011", "01011", "11010", "00111", "10110", "01110", "11111"}
}

// textOf is the characters of those values, one behind the other.
func textOf(values ...int) string {
	s := ""
	for _, v := range values {
		s += charTexts()[v]
	}
	return s
}

// bytesOf is bits as bytes, the highest bit of each first, with as many zeros behind them as fill the last one.
func bytesOf(text string) []byte {
	text = strings.ReplaceAll(text, " ", "")
	for len(text)%8 != 0 {
		text += "0"
	}
	b := make([]byte, len(text)/8)
	for i := range b {
		for _, c := range text[8*i : 8*i+8] {
			b[i] = b[i]*2 + byte(c-'0')
		}
	}
	return b
}

// bitsText is bytes as bits, the highest bit of each first.
func bitsText(b []byte) string {
	s := strings.Builder{}
	for _, x := range b {
		for place := 7; place >= 0; place-- {
			s.WriteByte('0' + x>>place&1)
		}
	}
	return s.String()
}

// trackText is the bits of the track of those digits.
func trackText(digits []byte) string {
	values, sum := []int{11}, 11^15
	for _, d := range digits {
		values = append(values, int(d))
		sum ^= int(d)
	}
	return textOf(append(values, 15, sum)...)
}

// wanted is what the document asks of Get, told by the text of the bits.
func wanted(b []byte) ([]byte, api.Errno) {
	s := bitsText(b)
	if len(s) < 15 || len(b) > 50 {
		return nil, api.ErrLength
	}
	if s[:5] != "11010" {
		return nil, api.ErrStart
	}
	digits := []byte{}
	at, sum := 5, 11
	for {
		if len(s) < at+5 {
			return nil, api.ErrEnd
		}
		v := slices.Index(charTexts(), s[at:at+5])
		at += 5
		if v < 0 {
			return nil, api.ErrParity
		}
		sum ^= v
		if v == 15 {
			break
		}
		if v > 9 {
			return nil, api.ErrDigit
		}
		digits = append(digits, byte(v))
	}
	if len(s) < at+5 {
		return nil, api.ErrEnd
	}
	v := slices.Index(charTexts(), s[at:at+5])
	if v < 0 {
		return nil, api.ErrParity
	}
	if v != sum {
		return nil, api.ErrSum
	}
	if !bytes.Equal(b, bytesOf(s[:at+5])) {
		return nil, api.ErrLength
	}
	return digits, api.OK
}

// noise is n bytes without a pattern, always the same ones of one seed.
func noise(n int, seed uint32) []byte {
	b := make([]byte, n)
	x := seed*2654435761 + 1
	for i := range b {
		x = x*1664525 + 1013904223
		b[i] = byte(x >> 24)
	}
	return b
}

// noiseDigits is n digits without a pattern.
func noiseDigits(n int, seed uint32) []byte {
	d := noise(n, seed)
	for i := range d {
		d[i] %= 10
	}
	return d
}

// bools is bits as Pack takes them.
func bools(text string) []bool {
	l := []bool{}
	for _, c := range strings.ReplaceAll(text, " ", "") {
		l = append(l, c == '1')
	}
	return l
}

func TestPackExamples(t *testing.T) {
	for _, x := range []struct {
		text string
		want []byte
	}{
		{"", nil}, {"0", []byte{0}}, {"1", []byte{128}}, {"01", []byte{64}}, {"11", []byte{192}}, {"0000001", []byte{2}},
		{"00000001", []byte{1}}, {"10000000", []byte{128}}, {"11111111", []byte{255}}, {"11010100", []byte{212}}, {"01110110", []byte{118}},
		{"00000000 0", []byte{0, 0}}, {"00000000 1", []byte{0, 128}}, {"11111111 1", []byte{255, 128}}, {"10000001 0111111", []byte{129, 126}},
		{"11010100 00100111 11110011 1", []byte{212, 39, 243, 128}}, {"00000001 10000000", []byte{1, 128}},
	} {
		if got := Pack(bools(x.text)); !bytes.Equal(got, x.want) {
			t.Errorf("P11.1: Pack(%s) = %v, want %v", x.text, got, x.want)
		}
	}
}

func TestPackAtAllLengths(t *testing.T) {
	for n := range 200 {
		for _, fill := range []string{strings.Repeat("1", n), strings.Repeat("0", n), bitsText(noise(25, uint32(n)))[:n]} {
			got := Pack(bools(fill))
			if len(got) != (n+7)/8 {
				t.Errorf("P11.1: Pack of %d bits = %d bytes", n, len(got))
			}
			if !bytes.Equal(got, bytesOf(fill)) {
				t.Errorf("P11.1: Pack(%s) = %v, want %v", fill, got, bytesOf(fill))
			}
			if slices.Contains(Unpack(got)[n:], true) {
				t.Errorf("P11.1: Pack(%s) = %v, of which a bit that is left over is 1", fill, got)
			}
		}
	}
}

func TestPackOneBit(t *testing.T) {
	for n := 1; n < 60; n++ {
		for i := range n {
			l := make([]bool, n)
			l[i] = true
			want := make([]byte, (n+7)/8)
			want[i/8] = []byte{128, 64, 32, 16, 8, 4, 2, 1}[i%8]
			if got := Pack(l); !bytes.Equal(got, want) {
				t.Errorf("P11.1: Pack of %d bits with bit %d = %v, want %v", n, i, got, want)
			}
		}
	}
}

func TestUnpack(t *testing.T) {
	for x := range 256 {
		got := Unpack([]byte{byte(x)})
		want := []bool{x >= 128, x%128 >= 64, x%64 >= 32, x%32 >= 16, x%16 >= 8, x%8 >= 4, x%4 >= 2, x%2 == 1}
		if !slices.Equal(got, want) {
			t.Errorf("P11.1: Unpack(%d) = %v, want %v", x, got, want)
		}
	}
	for n := range 70 {
		b := noise(n, uint32(n)+7)
		got := Unpack(b)
		if len(got) != 8*n || !slices.Equal(got, bools(bitsText(b))) {
			t.Errorf("P11.1: Unpack(%v) = %v", b, got)
		}
		if !bytes.Equal(Pack(got), b) {
			t.Errorf("P11.1: Pack(Unpack(%v)) = %v", b, Pack(got))
		}
	}
	if got := Unpack(nil); len(got) != 0 {
		t.Errorf("P11.1: Unpack(nil) = %v", got)
	}
}

func TestPackAndUnpackBeyondTracks(t *testing.T) {
	b := noise(5000, 3)
	if !bytes.Equal(Pack(Unpack(b)), b) {
		t.Errorf("P11.1: 5000 bytes are not Pack of what Unpack tells")
	}
}

func TestPutExamples(t *testing.T) {
	for _, x := range []struct {
		digits []byte
		want   []byte
	}{
		{[]byte{1, 9}, []byte{212, 39, 243, 128}},
		{nil, []byte{215, 200}}, {[]byte{}, []byte{215, 200}},
		{[]byte{0}, bytesOf("11010 00001 11111 00100")}, {[]byte{4}, bytesOf("11010 00100 11111 00001")},
		{[]byte{9}, bytesOf("11010 10011 11111 10110")}, {[]byte{8, 3}, bytesOf("11010 00010 11001 11111 11111")},
		{[]byte{0, 1, 2, 3, 4, 5, 6, 7, 8, 9}, bytesOf("11010 00001 10000 01000 11001 00100 10101 01101 11100 00010 10011 11111 10101")},
	} {
		got, e := Put(x.digits)
		if !bytes.Equal(got, x.want) || e != api.OK {
			t.Errorf("P11.2: Put(%v) = %v, %d, want %v", x.digits, got, e, x.want)
		}
	}
}

func TestPutAtAllLengths(t *testing.T) {
	for n := range 78 {
		for seed := range uint32(20) {
			digits := noiseDigits(n, seed)
			got, e := Put(digits)
			want := bytesOf(trackText(digits))
			if !bytes.Equal(got, want) || e != api.OK {
				t.Errorf("P11.2: Put(%v) = %v, %d, want %v", digits, got, e, want)
			}
		}
		for d := range 10 {
			digits := bytes.Repeat([]byte{byte(d)}, n)
			got, e := Put(digits)
			if !bytes.Equal(got, bytesOf(trackText(digits))) || e != api.OK {
				t.Errorf("P11.2: Put(%d times %d) = %v, %d", n, d, got, e)
			}
		}
	}
	if got, _ := Put(noiseDigits(77, 1)); len(got) != 50 {
		t.Errorf("P11.2: the track of 77 digits is %d bytes, want 50", len(got))
	}
}

func TestPutLimit(t *testing.T) {
	for _, n := range []int{78, 79, 80, 100, 256, 333, 1000, 70000} {
		wrong := bytes.Repeat([]byte{10}, n)
		for _, digits := range [][]byte{noiseDigits(n, 1), make([]byte, n), wrong, append(noiseDigits(n-1, 2), 255)} {
			if got, e := Put(digits); got != nil || e != api.ErrLimit {
				t.Errorf("P11.2: Put of %d digits = %v, %d, want %d", n, got, e, api.ErrLimit)
			}
		}
	}
}

func TestPutDigit(t *testing.T) {
	for x := 10; x < 256; x++ {
		if got, e := Put([]byte{byte(x)}); got != nil || e != api.ErrDigit {
			t.Errorf("P11.2: Put(%d) = %v, %d, want %d", x, got, e, api.ErrDigit)
		}
	}
	for _, n := range []int{2, 3, 10, 76, 77} {
		for place := range n {
			for _, x := range []byte{10, 11, 15, 16, 31, '0', '9', 128, 255} {
				digits := noiseDigits(n, uint32(n))
				digits[place] = x
				if got, e := Put(digits); got != nil || e != api.ErrDigit {
					t.Errorf("P11.2: Put(%v) = %v, %d, want %d", digits, got, e, api.ErrDigit)
				}
			}
		}
	}
}

// same tells where Get(b) answers something else than the document asks.
func same(t *testing.T, b []byte) {
	t.Helper()
	want, e := wanted(b)
	got, f := Get(b)
	if f != e || !bytes.Equal(got, want) || e != api.OK && got != nil {
		t.Errorf("P11.3: Get(%v) = %v, %d, want %v, %d", b, got, f, want, e)
	}
}

func TestGetExamples(t *testing.T) {
	for _, x := range []struct {
		b    []byte
		want []byte
	}{
		{[]byte{212, 39, 243, 128}, []byte{1, 9}}, {[]byte{215, 200}, nil},
		{bytesOf("11010 00001 11111 00100"), []byte{0}},
		{bytesOf("11010 10011 11111 10110"), []byte{9}},
		{bytesOf("11010 00010 11001 11111 11111"), []byte{8, 3}},
		{bytesOf("11010 11001 11100 11111 00001"), []byte{3, 7}},
	} {
		got, e := Get(x.b)
		if !bytes.Equal(got, x.want) || e != api.OK {
			t.Errorf("P11.3: Get(%v) = %v, %d, want %v", x.b, got, e, x.want)
		}
	}
}

func TestGetLength(t *testing.T) {
	for x := range 256 {
		if got, e := Get([]byte{byte(x)}); got != nil || e != api.ErrLength {
			t.Errorf("P11.3: Get(%d) = %v, %d, want %d", x, got, e, api.ErrLength)
		}
	}
	whole, _ := Put(noiseDigits(77, 5))
	for _, b := range [][]byte{nil, {}, append(slices.Clone(whole), 0), append(slices.Clone(whole), 255), make([]byte, 51), bytes.Repeat([]byte{255}, 51), make([]byte, 52), noise(1000, 1), make([]byte, 100000)} {
		if got, e := Get(b); got != nil || e != api.ErrLength {
			t.Errorf("P11.3: Get of %d bytes = %v, %d, want %d", len(b), got, e, api.ErrLength)
		}
	}
	if got, e := Get(whole); len(got) != 77 || e != api.OK {
		t.Errorf("P11.3: Get of 50 bytes = %v, %d, want 77 digits", got, e)
	}
}

func TestGetStart(t *testing.T) {
	for c := range 32 {
		first := bitsText([]byte{byte(c << 3)})[:5]
		for _, rest := range []string{"11111 00100", "10000 10011 11111 00110", "00000 00000", "01011 11111 00001", strings.Repeat("1", 395)} {
			b := bytesOf(first + rest)
			got, e := Get(b)
			if first != "11010" && (got != nil || e != api.ErrStart) {
				t.Errorf("P11.3: Get(%v) = %v, %d, want %d", b, got, e, api.ErrStart)
			}
			if first == "11010" && e == api.ErrStart {
				t.Errorf("P11.3: Get(%v) = %v, %d", b, got, e)
			}
		}
	}
	for _, b := range [][]byte{{0, 0}, {255, 255}, make([]byte, 50), bytes.Repeat([]byte{255}, 50), {218, 0}, {90, 240}} {
		if got, e := Get(b); got != nil || e != api.ErrStart {
			t.Errorf("P11.3: Get(%v) = %v, %d, want %d", b, got, e, api.ErrStart)
		}
	}
}

func TestGetErrors(t *testing.T) {
	for _, x := range []struct {
		what string
		text string
		want api.Errno
	}{
		{"no character of 15, three characters", "11010 10000 10011 0", api.ErrEnd},
		{"no character of 15, four characters", "11010 10000 10011 00001 1111", api.ErrEnd},
		{"no character of 15, eight characters", textOf(11, 1, 2, 3, 4, 5, 6, 7), api.ErrEnd},
		{"no character of 15, eighty characters", textOf(11) + strings.Repeat(textOf(9), 79), api.ErrEnd},
		{"the start's character again", textOf(11, 11, 15, 15), api.ErrDigit},
		{"zeros behind the digits", "11010 10000 000000", api.ErrParity},
		{"a character without a value", "11010 00000 11111 00100", api.ErrParity},
		{"a character without a value ahead of 10", "11010 10001 01011 11111 00100", api.ErrParity},
		{"10 ahead of a character without a value", "11010 01011 00000 11111 00100", api.ErrDigit},
		{"10 ahead of the end", "11010 01011 00001 0", api.ErrDigit},
		{"a character without a value, at the end", "11010 00001 11000 0", api.ErrParity},
		{"nothing behind 15", "11010 00001 11111 0", api.ErrEnd},
		{"nothing behind 15, though that would be no value", "11010 00001 11111 1", api.ErrEnd},
		{"four bits behind 15", textOf(11, 1, 2, 15) + "0110", api.ErrEnd},
		{"ones alone behind 15", textOf(11, 1, 2, 3, 4, 5, 15) + "11111", api.ErrSum},
		{"nothing behind 15, in 50 bytes", textOf(11) + strings.Repeat(textOf(9), 78) + textOf(15), api.ErrEnd},
		{"a Sum without a value", "11010 00001 11111 00000", api.ErrParity},
		{"a Sum without a value, and more", "11010 00001 11111 00000 11111", api.ErrParity},
		{"a wrong Sum", "11010 00001 11111 00001", api.ErrSum},
		{"a Sum without 15", textOf(11, 1, 9, 15, 11^1^9), api.ErrSum},
		{"a Sum without 11", textOf(11, 1, 9, 15, 1^9^15), api.ErrSum},
		{"a Sum without both", textOf(11, 1, 9, 15, 1^9), api.ErrSum},
		{"a wrong Sum, and more", textOf(11, 1, 9, 15, 0) + "11111111", api.ErrSum},
		{"a byte too many", textOf(11, 1, 9, 15, 12) + "0000000 00000000", api.ErrLength},
		{"another track behind", textOf(11, 1, 9, 15, 12) + "0000000" + textOf(11, 1, 9, 15, 12), api.ErrLength},
		{"the last bit of all is 1", textOf(11, 1, 9, 15, 12) + "0000001", api.ErrLength},
		{"the first bit left over is 1", textOf(11, 1, 9, 15, 12) + "1", api.ErrLength},
		{"no digits, the bit left over is 1", textOf(11, 15, 4) + "1", api.ErrLength},
		{"76 digits, and a character more", textOf(11) + strings.Repeat(textOf(9), 76) + textOf(15, 4) + textOf(1), api.ErrLength},
	} {
		b := bytesOf(x.text)
		if got, e := Get(b); got != nil || e != x.want {
			t.Errorf("P11.3: %s: Get(%v) = %v, %d, want %d", x.what, b, got, e, x.want)
		}
		same(t, b)
	}
}

func TestGetAtAllPlaces(t *testing.T) {
	for n := 1; n <= 77; n++ {
		digits := noiseDigits(n, uint32(n))
		text := trackText(digits)
		for place := range n {
			ahead, behind := text[:5+5*place], text[10+5*place:]
			for c := range 32 {
				five := bitsText([]byte{byte(c << 3)})[:5]
				b := bytesOf(ahead + five + behind)
				same(t, b)
				v := slices.Index(charTexts(), five)
				_, e := Get(b)
				if v < 0 && e != api.ErrParity || v > 9 && v < 15 && e != api.ErrDigit || v >= 0 && v < 10 && v != int(digits[place]) && e != api.ErrSum {
					t.Errorf("P11.3: %v with the character %s at %d: %d", digits, five, place, e)
				}
			}
		}
		for v := range 16 {
			b := bytesOf(text[:len(text)-5] + textOf(v))
			same(t, b)
			right := text[len(text)-5:] == textOf(v)
			if _, e := Get(b); right && e != api.OK || !right && e != api.ErrSum {
				t.Errorf("P11.3: %v with the Sum %d: %d", digits, v, e)
			}
		}
	}
}

func TestGetAllShort(t *testing.T) {
	for x := range 1 << 16 {
		same(t, []byte{byte(x >> 8), byte(x)})
	}
	for x := range 1 << 19 {
		same(t, []byte{byte(0b11010<<3 | x>>16), byte(x >> 8), byte(x)})
	}
}

func TestGetNoise(t *testing.T) {
	for seed := range uint32(2000) {
		b := noise(int(seed%56), seed)
		same(t, b)
		if len(b) > 0 {
			b[0] = 0b11010<<3 | b[0]&7
			same(t, b)
		}
	}
	// Characters that are right mostly, with a 15 now and then, come further.
	for seed := range uint32(5000) {
		text := "11010"
		for _, x := range noise(int(seed%80), seed+9) {
			text += charTexts()[min(int(x)%20, 15)%16]
		}
		same(t, bytesOf(text))
	}
}

func TestPutAndGet(t *testing.T) {
	for n := range 78 {
		for seed := range uint32(20) {
			digits := noiseDigits(n, seed+50)
			b, _ := Put(digits)
			got, e := Get(b)
			if !bytes.Equal(got, digits) || e != api.OK {
				t.Errorf("P11.4: %v was put and got as %v, %d", digits, got, e)
			}
		}
	}
	for x := range 10000 {
		digits := []byte{byte(x / 1000), byte(x / 100 % 10), byte(x / 10 % 10), byte(x % 10)}
		b, _ := Put(digits)
		if got, e := Get(b); !bytes.Equal(got, digits) || e != api.OK {
			t.Errorf("P11.4: %v was put and got as %v, %d", digits, got, e)
		}
	}
}

func TestGetAndPut(t *testing.T) {
	right := 0
	check := func(b []byte) {
		digits, e := Get(b)
		if e != api.OK {
			return
		}
		right++
		if again, f := Put(digits); !bytes.Equal(again, b) || f != api.OK {
			t.Errorf("P11.4: %v was got as %v, and put as %v, %d", b, digits, again, f)
		}
	}
	for x := range 1 << 16 {
		check([]byte{byte(x >> 8), byte(x)})
	}
	for x := range 1 << 19 {
		check([]byte{byte(0b11010<<3 | x>>16), byte(x >> 8), byte(x)})
	}
	for x := range 1 << 20 {
		check([]byte{byte(0b11010<<3 | x>>17), byte(x >> 9), byte(x >> 1), byte(x << 7)})
	}
	if right != 1+10+100 {
		t.Errorf("P11.4: %d tracks of no, one and two digits are got, want 111", right)
	}
}

func TestOneBitChanged(t *testing.T) {
	for n := range 78 {
		for seed := range uint32(4) {
			b, _ := Put(noiseDigits(n, seed+100))
			for i := range 8 * len(b) {
				b[i/8] ^= 128 >> (i % 8)
				if got, e := Get(b); got != nil || e == api.OK {
					t.Errorf("P11.4: bit %d of the track of %d digits changed, and got as %v", i, n, got)
				}
				same(t, b)
				b[i/8] ^= 128 >> (i % 8)
			}
		}
	}
}

func TestPieces(t *testing.T) {
	for _, n := range []int{0, 1, 2, 3, 5, 8, 13, 40, 76, 77} {
		b, _ := Put(noiseDigits(n, 9))
		for end := range b {
			if got, e := Get(b[:end]); got != nil || e == api.OK {
				t.Errorf("P11.3: %d bytes of the track of %d digits = %v, %d", end, n, got, e)
			}
			same(t, b[:end])
		}
		for range 5 {
			b = append(b, 0)
			if got, e := Get(b); got != nil || e != api.ErrLength {
				t.Errorf("P11.3: %d bytes, the track of %d digits first = %v, %d, want %d", len(b), n, got, e, api.ErrLength)
			}
		}
	}
}

func TestArgumentsStay(t *testing.T) {
	digits := noiseDigits(50, 1)
	before := slices.Clone(digits)
	b, _ := Put(digits)
	if !bytes.Equal(digits, before) {
		t.Errorf("R2: Put changed what was handed in")
	}
	for _, b := range [][]byte{b, noise(30, 2), append(slices.Clone(b), 0), b[:20]} {
		before := slices.Clone(b)
		Get(b)
		Unpack(b)
		if !bytes.Equal(b, before) {
			t.Errorf("R2: Get or Unpack changed what was handed in")
		}
	}
	l := bools(bitsText(noise(9, 3)))[:70]
	kept := slices.Clone(l[:cap(l)])
	Pack(l)
	if !slices.Equal(l[:cap(l)], kept) {
		t.Errorf("R2: Pack changed what was handed in")
	}
}

func TestAnswersStay(t *testing.T) {
	digits := noiseDigits(20, 1)
	b, _ := Put(digits)
	got, _ := Get(b)
	l := Unpack(b)
	p := Pack(l)
	kept := slices.Clone(b)
	Put(noiseDigits(20, 2))
	Get(kept)
	clear(digits)
	if !bytes.Equal(b, kept) {
		t.Errorf("R2: what Put answered was changed later")
	}
	clear(b)
	if !bytes.Equal(got, noiseDigits(20, 1)) || !slices.Equal(l, bools(bitsText(kept))) {
		t.Errorf("R2: what Get or Unpack answered was changed with its argument")
	}
	clear(l)
	if !bytes.Equal(p, kept) {
		t.Errorf("R2: what Pack answered was changed with its argument")
	}
}

func TestSameAgain(t *testing.T) {
	for seed := range uint32(50) {
		digits := noiseDigits(int(seed), seed)
		b, _ := Put(digits)
		Get(noise(20, seed))
		again, _ := Put(digits)
		got, _ := Get(b)
		if !bytes.Equal(b, again) || !bytes.Equal(got, digits) {
			t.Errorf("R2: Put(%v) or Get of it answers something else the second time", digits)
		}
	}
}
