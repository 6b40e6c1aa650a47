package stripe

import (
	"bytes"
	"crypto/hmac"
	"crypto/sha256"
	"encoding/binary"
	"math"
	"reflect"
	"slices"
	"strconv"
	"strings"
	"testing"

	"gateline/api"
	"gateline/layout"
	"gateline/swipe"
	"gateline/track"
)

// keyRing is a ring of five keys; the secrets of all are others, and the days of most are over when tickets begin.
func keyRing() []api.Key {
	return []api.Key{
		{Id: 0, Secret: []byte("z"), From: 0, To: 0},
		{Id: 7, Secret: []byte("Jefe"), From: 0, To: 365},
		{Id: 40, Secret: bytes.Repeat([]byte("k"), 64), From: 99999, To: 99999},
		{Id: 41, Secret: []byte("another"), From: 0, To: 99999},
		{Id: 99, Secret: bytes.Repeat([]byte{11}, 20), From: 5, To: 6},
	}
}

// noRings is lists of keys that are no ring, though most of them have all keys of keyRing.
func noRings() [][]api.Key {
	with := func(change func(l []api.Key)) []api.Key {
		l := keyRing()
		change(l)
		return l
	}
	return [][]api.Key{
		with(func(l []api.Key) { l[0], l[1] = l[1], l[0] }),
		with(func(l []api.Key) { l[2].Id = 7 }),
		with(func(l []api.Key) { l[0].Id = -1 }),
		with(func(l []api.Key) { l[4].Id = 100 }),
		with(func(l []api.Key) { l[3].Secret = nil }),
		with(func(l []api.Key) { l[3].Secret = make([]byte, 65) }),
		with(func(l []api.Key) { l[3].From = -1 }),
		with(func(l []api.Key) { l[3].To = 100000 }),
		with(func(l []api.Key) { l[4].From = 7 }),
		append(keyRing(), keyRing()...),
		make([]api.Key, 1),
		{{Id: math.MinInt, Secret: []byte{1}}},
	}
}

func single() api.Read {
	return api.Read{T: api.Ticket{Serial: 1, Kind: 1, From: 10, To: 20, Class: 2, Card: 0, Start: 0, Days: 1, Uses: 1, Epoch: 0}, Key: 7, J: api.Journey{Left: 1, In: 0}}
}

func back() api.Read {
	return api.Read{T: api.Ticket{Serial: 9999999, Kind: 2, From: 39, To: 0, Class: 1, Card: 3, Start: 99999, Days: 1, Uses: 2, Epoch: 9}, Key: 99, J: api.Journey{Left: 1, In: 40}}
}

func season() api.Read {
	return api.Read{T: api.Ticket{Serial: 77, Kind: 3, From: 2, To: 4, Class: 2, Card: 1, Start: 500, Days: 30, Uses: 0, Epoch: 3}, Key: 0, J: api.Journey{Left: 0, In: 21}}
}

func carnet() api.Read {
	return api.Read{T: api.Ticket{Serial: 1234567, Kind: 4, From: 3, To: 15, Class: 1, Card: 2, Start: 99001, Days: 999, Uses: 20, Epoch: 1}, Key: 40, J: api.Journey{Left: 13, In: 5}}
}

// ofEachKind is what a stripe of each kind says.
func ofEachKind() []api.Read {
	return []api.Read{single(), back(), season(), carnet()}
}

// textOfEachKind is the same as digits, in text, with a blank between fields, and the tag last.
func textOfEachKind() []string {
	return []string{
		"1 0000001 2 0 00000 001 0 10 20 01 00 07  2821800771",
		"2 9999999 1 3 99999 001 9 39 00 01 40 99  1288984538",
		"3 0000077 2 1 00500 030 3 2 4 00 21 00  2615408182",
		"4 1234567 1 2 99001 999 1 03 15 20 13 05 40  1989658087",
	}
}

// bytesOfEachKind is the same as bytes.
func bytesOfEachKind() [][]byte {
	return [][]byte{
		{212, 2, 16, 132, 33, 130, 2, 16, 132, 33, 8, 96, 24, 5, 1, 12, 2, 16, 241, 2, 68, 4, 16, 243, 144, 250, 0},
		{210, 39, 57, 206, 115, 156, 51, 57, 206, 115, 8, 97, 60, 204, 33, 12, 8, 25, 206, 8, 16, 166, 34, 87, 34, 254, 128},
		{214, 66, 16, 132, 60, 226, 32, 16, 212, 33, 14, 67, 148, 16, 33, 68, 2, 20, 54, 21, 32, 69, 1, 35, 249},
		{209, 32, 140, 146, 173, 228, 17, 57, 132, 48, 156, 231, 0, 230, 21, 64, 97, 144, 212, 129, 132, 197, 54, 212, 65, 23, 63, 0},
	}
}

// digitsOf is text of decimal digits as digits; blanks are none.
func digitsOf(text string) []byte {
	l := []byte{}
	for _, c := range strings.ReplaceAll(text, " ", "") {
		l = append(l, byte(c-'0'))
	}
	return l
}

// textOf is n as width digits, in text; n has no more digits.
func textOf(n, width int) string {
	s := strconv.Itoa(n)
	return strings.Repeat("0", width-len(s)) + s
}

// saidBy is what a stripe says as digits, told another way.
func saidBy(r api.Read) []byte {
	end := 2
	if r.T.Kind == 3 {
		end = 1
	}
	s := textOf(r.T.Kind, 1) + textOf(r.T.Serial, 7) + textOf(r.T.Class, 1) + textOf(r.T.Card, 1) + textOf(r.T.Start, 5) + textOf(r.T.Days, 3) + textOf(r.T.Epoch, 1)
	s += textOf(r.T.From, end) + textOf(r.T.To, end)
	if r.T.Kind == 4 {
		s += textOf(r.T.Uses, 2)
	}
	return digitsOf(s + textOf(r.J.Left, 2) + textOf(r.J.In, 2) + textOf(r.Key, 2))
}

// tagOf is a stripe's tag by the library's HMAC.
func tagOf(secret, said []byte) []byte {
	h := hmac.New(sha256.New, secret)
	h.Write([]byte{'S'})
	h.Write(said)
	return digitsOf(textOf(int(binary.BigEndian.Uint32(h.Sum(nil))), 10))
}

// charTexts is the characters of the values from 0 on, their lowest bits first, as chapter 10 counts them out.
func charTexts() []string {
	return []string{"00001", "10000", "01000", "11001", "00100", "10101", "01101", "11100", "00010", "10011", "01011", "11010", "00111", "10110", "01110", "11111"}
}

// charsOf is the characters of those values, one behind the other.
func charsOf(values ...int) string {
	s := ""
	for _, v := range values {
		s += charTexts()[v]
	}
	return s
}

// bytesOf is bits as bytes, the highest bit of each first, with as many zeros behind them as fill the last one.
func bytesOf(text string) []byte {
	text = strings.ReplaceAll(text, " ", "")
	for len(text)%8 != 0 {
		text += "0"
	}
	b := make([]byte, len(text)/8)
	for i := range b {
		for _, c := range text[8*i : 8*i+8] {
			b[i] = b[i]*2 + byte(c-'0')
		}
	}
	return b
}

// turned is b with its bits the other way round.
func turned(b []byte) []byte {
	out := make([]byte, len(b))
	for i := range 8 * len(b) {
		if b[i/8]&(128>>(i%8)) != 0 {
			out[len(b)-1-i/8] |= 1 << (i % 8)
		}
	}
	return out
}

// trackOf is the track of those digits, told by the text of its bits.
func trackOf(digits []byte) []byte {
	values, sum := []int{11}, 11^15
	for _, d := range digits {
		values = append(values, int(d))
		sum ^= int(d)
	}
	return bytesOf(charsOf(append(values, 15, sum)...))
}

// stripeOf is a stripe of those digits, with the tag that secret makes.
func stripeOf(secret, said []byte) []byte {
	return trackOf(slices.Concat(said, tagOf(secret, said)))
}

// secretOf is the secret of the key of that number; there is one.
func secretOf(ring []api.Key, id int) []byte {
	return ring[slices.IndexFunc(ring, func(k api.Key) bool { return k.Id == id })].Secret
}

// with is r with one number that is another.
func with(r api.Read, name string, n int) api.Read {
	*map[string]*int{
		"Serial": &r.T.Serial, "Kind": &r.T.Kind, "From": &r.T.From, "To": &r.T.To, "Class": &r.T.Class, "Card": &r.T.Card,
		"Seat": &r.T.Seat, "Start": &r.T.Start, "Days": &r.T.Days, "Uses": &r.T.Uses, "Epoch": &r.T.Epoch,
		"Left": &r.J.Left, "In": &r.J.In, "Key": &r.Key, "Version": &r.Version,
	}[name] = n
	return r
}

// noise is numbers without a pattern, always the same ones of one seed.
func noise(seed uint64) func(n int) int {
	x := seed*0x9e3779b97f4a7c15 + 1
	return func(n int) int {
		x ^= x << 13
		x ^= x >> 7
		x ^= x << 17
		return int(x>>1) % n
	}
}

// noiseBytes is n bytes below that bound, without a pattern.
func noiseBytes(next func(n int) int, n, bound int) []byte {
	b := make([]byte, n)
	for i := range b {
		b[i] = byte(next(bound))
	}
	return b
}

// noiseRing is some ring of a few keys.
func noiseRing(next func(n int) int) []api.Key {
	l := []api.Key{}
	for id := next(20); id < 100; id += 1 + next(30) {
		from := next(100000)
		l = append(l, api.Key{Id: id, Secret: noiseBytes(next, 1+next(64), 256), From: from, To: from + next(100000-from)})
	}
	return l
}

// noiseRead is what some stripe says, by a key of that ring.
func noiseRead(next func(n int) int, ring []api.Key) api.Read {
	r := api.Read{T: api.Ticket{Serial: 1 + next(9999999), Kind: 1 + next(4), Class: 1 + next(2), Card: next(4), Start: next(99002), Days: 1 + next(999), Epoch: next(10)}, Key: ring[next(len(ring))].Id}
	r.T.From = next(40)
	r.T.To = (r.T.From + 1 + next(39)) % 40
	switch r.T.Kind {
	case 1, 2:
		r.T.Uses = r.T.Kind
	case 3:
		r.T.From = 1 + next(6)
		r.T.To = r.T.From + next(7-r.T.From)
	case 4:
		r.T.Uses = 2 + next(19)
	}
	r.J = api.Journey{Left: next(r.T.Uses + 1), In: next(41)}
	return r
}

func wantEncode(t *testing.T, ring []api.Key, r api.Read, want []byte, code api.Errno) {
	t.Helper()
	got, e := Encode(ring, r)
	if e != code || !bytes.Equal(got, want) || code != api.OK && got != nil {
		t.Errorf("P15.2: Encode of %+v = %v, %d, want %v, %d", r, got, e, want, code)
	}
}

// wantDecode tries b, and b turned round.
func wantDecode(t *testing.T, ring []api.Key, b []byte, want api.Read, code api.Errno) {
	t.Helper()
	for _, side := range [][]byte{b, turned(b)} {
		if got, e := Decode(ring, side); got != want || e != code {
			t.Errorf("P15.3: Decode of %v = %+v, %d, want %+v, %d", side, got, e, want, code)
		}
	}
}

// asAsked is what P15.3 asks of b by the exported calls of the layers below, for a list of keys that is a ring.
func asAsked(ring []api.Key, b []byte) (api.Read, api.Errno) {
	digits, _, e := swipe.Read(b)
	if e != api.OK {
		return api.Read{}, e
	}
	if len(digits) < 10 {
		return api.Read{}, api.ErrLength
	}
	end := len(digits) - 10
	r, e := layout.Get(digits[:end])
	if e != api.OK {
		return api.Read{}, e
	}
	for _, k := range ring {
		if k.Id == r.Key {
			if !bytes.Equal(tagOf(k.Secret, digits[:end]), digits[end:]) {
				return api.Read{}, api.ErrTag
			}
			return r, api.OK
		}
	}
	return api.Read{}, api.ErrKey
}

// wantAsAsked tries Decode of b against asAsked, and tells its error.
func wantAsAsked(t *testing.T, ring []api.Key, b []byte) api.Errno {
	t.Helper()
	want, code := asAsked(ring, b)
	if got, e := Decode(ring, b); got != want || e != code {
		t.Errorf("P15.3: Decode of %v = %+v, %d, want %+v, %d", b, got, e, want, code)
	}
	return code
}

func TestTagExamples(t *testing.T) {
	for _, x := range []struct {
		secret string
		digits []byte
		want   string
	}{
		{"Jefe", nil, "4256873955"},
		{"", nil, "3584800643"},
		{"Jefe", []byte{1, 9}, "0450049607"},
		{strings.Repeat("x", 65), []byte{1, 9}, "3389909163"},
		{"Jefe", []byte{2, 1, 8}, "0006494362"},
		{"Jefe", []byte{2, 6, 0}, "0000958128"},
		{"Jefe", []byte{4, 3, 4}, "0002274641"},
		{"Jefe", digitsOf("1 0000001 2 0 00000 001 0 10 20 01 00 07"), "2821800771"},
	} {
		if got := Tag([]byte(x.secret), x.digits); !bytes.Equal(got, digitsOf(x.want)) {
			t.Errorf("P15.1: Tag(%q, %v) = %v, want %s", x.secret, x.digits, got, x.want)
		}
	}
}

func TestTag(t *testing.T) {
	next := noise(1)
	for n := range 140 {
		for m := range 70 {
			secret, digits := noiseBytes(next, n, 256), noiseBytes(next, m, 10)
			if got := Tag(secret, digits); !bytes.Equal(got, tagOf(secret, digits)) {
				t.Fatalf("P15.1: Tag(%v, %v) = %v, want %v", secret, digits, got, tagOf(secret, digits))
			}
		}
	}
	// The chapter bounds neither secrets nor what it calls digits.
	for _, n := range []int{0, 1, 77, 78, 1000, 70000} {
		secret, digits := noiseBytes(next, n, 256), noiseBytes(next, n, 256)
		if got := Tag(secret, digits); !bytes.Equal(got, tagOf(secret, digits)) {
			t.Errorf("P15.1: Tag of %d bytes = %v, want %v", n, got, tagOf(secret, digits))
		}
	}
}

func TestExamples(t *testing.T) {
	for i, r := range ofEachKind() {
		b := bytesOfEachKind()[i]
		if text := digitsOf(textOfEachKind()[i]); !bytes.Equal(trackOf(text), b) {
			t.Fatalf("the examples of kind %d are not the same", i+1)
		}
		wantEncode(t, keyRing(), r, b, api.OK)
		wantDecode(t, keyRing(), b, r, api.OK)
	}
}

func TestEncodeOfNoRing(t *testing.T) {
	for _, ring := range noRings() {
		for _, r := range ofEachKind() {
			wantEncode(t, ring, r, nil, api.ErrArg)
			// It is told ahead of what has no room, and of a key that there is not.
			wantEncode(t, ring, with(r, "Seat", 1), nil, api.ErrArg)
			wantEncode(t, ring, with(r, "Key", 50), nil, api.ErrArg)
		}
	}
}

func TestEncodeOfWrongReads(t *testing.T) {
	for _, ring := range [][]api.Key{nil, {}, keyRing()} {
		for _, r := range ofEachKind() {
			for _, name := range []string{"Serial", "Kind", "From", "To", "Class", "Card", "Seat", "Start", "Days", "Uses", "Epoch", "Left", "In", "Key", "Version"} {
				for _, n := range []int{math.MinInt, -1 << 32, -1, 1<<40 + 1, 1 << 62, math.MaxInt} {
					wantEncode(t, ring, with(r, name, n), nil, api.ErrArg)
				}
			}
			for name, n := range map[string]int{"Serial": 0, "Kind": 5, "From": 40, "To": 41, "Class": 3, "Card": 4, "Start": 100000, "Days": 1000, "Uses": 21, "Epoch": 10, "Left": 21, "In": 41, "Key": 100, "Version": 1} {
				wantEncode(t, ring, with(r, name, n), nil, api.ErrArg)
				wantEncode(t, ring, with(with(r, "Seat", 5), name, n), nil, api.ErrArg)
			}
			// What has no room is told ahead of a key that there is not.
			for _, key := range []int{r.Key, 1, 50, 98} {
				wantEncode(t, ring, with(with(r, "Seat", 1), "Key", key), nil, api.ErrFit)
				wantEncode(t, ring, with(with(r, "Serial", 10000000), "Key", key), nil, api.ErrFit)
				wantEncode(t, ring, with(with(r, "Serial", 1<<40), "Key", key), nil, api.ErrFit)
			}
		}
		wantEncode(t, ring, api.Read{}, nil, api.ErrArg)
	}
}

func TestKeys(t *testing.T) {
	for _, ring := range [][]api.Key{nil, {}, keyRing(), keyRing()[1:], keyRing()[:2], keyRing()[2:3]} {
		for _, r := range ofEachKind() {
			for id := range 100 {
				x := with(r, "Key", id)
				if !slices.ContainsFunc(ring, func(k api.Key) bool { return k.Id == id }) {
					wantEncode(t, ring, x, nil, api.ErrKey)
					wantDecode(t, ring, stripeOf([]byte("Jefe"), saidBy(x)), api.Read{}, api.ErrKey)
					// Whatever its tag is.
					wantDecode(t, ring, trackOf(append(saidBy(x), make([]byte, 10)...)), api.Read{}, api.ErrKey)
					continue
				}
				b := stripeOf(secretOf(ring, id), saidBy(x))
				wantEncode(t, ring, x, b, api.OK)
				wantDecode(t, ring, b, x, api.OK)
			}
		}
	}
}

func TestDecodeOfNoRing(t *testing.T) {
	for _, ring := range noRings() {
		for _, b := range bytesOfEachKind() {
			wantDecode(t, ring, b, api.Read{}, api.ErrArg)
			wantDecode(t, ring, b[:9], api.Read{}, api.ErrArg)
		}
		for _, b := range [][]byte{nil, {1}, make([]byte, 51), trackOf(nil), trackOf(make([]byte, 30))} {
			wantDecode(t, ring, b, api.Read{}, api.ErrArg)
		}
	}
}

func TestDecodeOfNoTracks(t *testing.T) {
	for _, ring := range [][]api.Key{nil, keyRing()} {
		for _, x := range []struct {
			what string
			b    []byte
			want api.Errno
		}{
			{"nothing", nil, api.ErrLength}, {"no bytes", []byte{}, api.ErrLength}, {"one byte", []byte{212}, api.ErrLength},
			{"51 bytes", make([]byte, 51), api.ErrLength}, {"many bytes", make([]byte, 70000), api.ErrLength},
			{"zeros", make([]byte, 30), api.ErrStart}, {"ones", bytes.Repeat([]byte{255}, 30), api.ErrStart},
			{"no end", bytesOf(charsOf(11, 1, 2, 3, 4, 5, 6, 7)), api.ErrEnd},
			{"no value", bytesOf(charsOf(11) + "00000" + charsOf(15, 4)), api.ErrParity},
			{"a digit too great", bytesOf(charsOf(11, 10, 15, 14)), api.ErrDigit},
			{"a wrong Sum", bytesOf(charsOf(11, 1, 9, 15, 0)), api.ErrSum},
			{"a byte too many", append(trackOf(digitsOf(textOfEachKind()[0])), 0), api.ErrLength},
			{"a byte too few", bytesOfEachKind()[2][:24], api.ErrEnd},
		} {
			if got, e := Decode(ring, x.b); got != (api.Read{}) || e != x.want {
				t.Errorf("P15.3: %s: Decode = %+v, %d, want %d", x.what, got, e, x.want)
			}
		}
	}
}

func TestDecodeOfWrongDigits(t *testing.T) {
	for _, ring := range [][]api.Key{nil, keyRing()} {
		for _, x := range []struct {
			said string
			want api.Errno
		}{
			{"", api.ErrLength}, {"1", api.ErrLength}, {"4", api.ErrLength}, {"0", api.ErrKind}, {"5", api.ErrKind}, {"9", api.ErrKind},
			{"0 0000001 2 0 00000 001 0 10 20 01 00 07", api.ErrKind}, {"5 0000001 2 0 00000 001 0 10 20 01 00 07", api.ErrKind},
			{"1 0000001 2 0 00000 001 0 10 20 01 00 0", api.ErrLength}, {"1 0000001 2 0 00000 001 0 10 20 01 00 07 0", api.ErrLength},
			{"3 0000001 2 0 00000 001 0 10 20 01 00 07", api.ErrLength}, {"4 0000001 2 0 00000 001 0 10 20 01 00 07", api.ErrLength},
			{"1 0000000 2 0 00000 001 0 10 20 01 00 07", api.ErrField}, {"1 0000001 2 0 00000 001 0 10 10 01 00 07", api.ErrField},
			{"1 0000001 2 0 00000 001 0 10 20 02 00 07", api.ErrField}, {"1 0000001 2 0 00000 001 0 10 20 01 41 07", api.ErrField},
			{"2 0000001 2 0 99999 002 0 10 20 02 00 07", api.ErrField}, {"3 0000077 2 1 00500 030 3 4 2 00 21 00", api.ErrField},
			{"4 1234567 1 2 99001 999 1 03 15 21 13 05 40", api.ErrField}, {"4 1234567 1 2 99001 999 1 03 15 01 01 05 40", api.ErrField},
			// Fields are asked ahead of the key.
			{"1 0000001 2 0 00000 001 0 10 20 02 00 50", api.ErrField}, {"3 0000077 2 1 00500 030 3 4 2 00 21 50", api.ErrField},
		} {
			said := digitsOf(x.said)
			// Whatever the tag is, right or wrong: all of that is asked ahead of it.
			wantDecode(t, ring, stripeOf([]byte("Jefe"), said), api.Read{}, x.want)
			wantDecode(t, ring, trackOf(append(said, make([]byte, 10)...)), api.Read{}, x.want)
			wantDecode(t, ring, trackOf(append(said, 9, 8, 7, 6, 5, 4, 3, 2, 1, 0)), api.Read{}, x.want)
		}
	}
}

func TestDecodeOfFewDigits(t *testing.T) {
	next := noise(2)
	for n := range 10 {
		for first := range 10 {
			for range 20 {
				digits := noiseBytes(next, n, 10)
				if n > 0 {
					digits[0] = byte(first)
				}
				wantDecode(t, keyRing(), trackOf(digits), api.Read{}, api.ErrLength)
			}
		}
	}
	// 10 digits are a tag alone, which nothing stands ahead of; one more is asked whether it is a kind.
	for first := range 10 {
		digits := make([]byte, 11)
		digits[0] = byte(first)
		wantDecode(t, keyRing(), trackOf(digits[:10]), api.Read{}, api.ErrLength)
		code := api.ErrKind
		if first >= 1 && first <= 4 {
			code = api.ErrLength
		}
		wantDecode(t, keyRing(), trackOf(digits), api.Read{}, code)
	}
	for n := 12; n <= 77; n++ {
		for _, first := range []byte{0, 1, 2, 3, 4, 5} {
			digits := noiseBytes(next, n, 10)
			digits[0] = first
			wantAsAsked(t, keyRing(), trackOf(digits))
		}
	}
}

// TestOtherDigits has each digit of stripes changed to each other one, with the Sum that those digits have.
func TestOtherDigits(t *testing.T) {
	for _, text := range textOfEachKind() {
		digits := digitsOf(text)
		for place := range digits {
			for d := range byte(10) {
				other := slices.Clone(digits)
				other[place] = d
				if d == digits[place] {
					continue
				}
				e := wantAsAsked(t, keyRing(), trackOf(other))
				wantAsAsked(t, keyRing(), turned(trackOf(other)))
				if e == api.OK {
					t.Errorf("P15.3: digit %d of %s is changed to %d, and it is decoded", place, text, d)
				}
				if place >= len(digits)-10 && e != api.ErrTag {
					t.Errorf("P15.3: digit %d of %s is changed to %d: %d, want %d", place, text, d, e, api.ErrTag)
				}
			}
		}
	}
}

func TestOtherTags(t *testing.T) {
	ring := keyRing()
	for i, r := range ofEachKind() {
		text := digitsOf(textOfEachKind()[i])
		said, tag := text[:len(text)-10], text[len(text)-10:]
		h := hmac.New(sha256.New, secretOf(ring, r.Key))
		h.Write(said)
		unmarked := digitsOf(textOf(int(binary.BigEndian.Uint32(h.Sum(nil))), 10))
		wrong := [][]byte{
			make([]byte, 10), bytes.Repeat([]byte{9}, 10), digitsOf("4294967295"), digitsOf("4294967296"), unmarked,
			append(slices.Clone(tag[1:]), tag[0]), tagOf(secretOf(ring, r.Key), said[1:]), tagOf(secretOf(ring, r.Key), text), tagOf(nil, said),
		}
		for _, k := range ring {
			if k.Id != r.Key {
				wrong = append(wrong, tagOf(k.Secret, said))
			}
		}
		// Two digits that change places leave the Sum as it was.
		for a := range tag {
			for b := range a {
				other := slices.Clone(tag)
				other[a], other[b] = tag[b], tag[a]
				if tag[a] != tag[b] {
					wrong = append(wrong, other)
				}
			}
		}
		for _, other := range wrong {
			wantDecode(t, ring, trackOf(slices.Concat(said, other)), api.Read{}, api.ErrTag)
		}
	}
}

// TestOtherRings tells what of a ring plays a part: the secret of the key of that number, and nothing else.
func TestOtherRings(t *testing.T) {
	for i, r := range ofEachKind() {
		b := bytesOfEachKind()[i]
		place := slices.IndexFunc(keyRing(), func(k api.Key) bool { return k.Id == r.Key })
		secret := keyRing()[place].Secret
		alone := []api.Key{{Id: r.Key, Secret: secret, From: 0, To: 99999}}
		days := keyRing()
		for j := range days {
			days[j].From, days[j].To = 17, 18
		}
		others := keyRing()
		for j := range others {
			if j != place {
				others[j].Secret = []byte("others")
			}
		}
		for _, ring := range [][]api.Key{alone, days, others} {
			wantDecode(t, ring, b, r, api.OK)
			wantEncode(t, ring, r, b, api.OK)
		}
		flipped := slices.Clone(secret)
		flipped[len(secret)-1] ^= 1
		for _, other := range [][]byte{{1}, flipped, append([]byte{1}, secret[1:]...), []byte("another")} {
			ring := keyRing()
			ring[place].Secret = other
			wantDecode(t, ring, b, api.Read{}, api.ErrTag)
			wantEncode(t, ring, r, stripeOf(other, saidBy(r)), api.OK)
		}
		wantDecode(t, slices.Delete(keyRing(), place, place+1), b, api.Read{}, api.ErrKey)
	}
	// A key's secret that ends in bytes 0 makes the tags of the one without them (chapter 3).
	ring := keyRing()
	ring[1].Secret = append(ring[1].Secret, 0, 0)
	wantDecode(t, ring, bytesOfEachKind()[0], single(), api.OK)
}

func TestEncodeAndDecode(t *testing.T) {
	next := noise(3)
	for range 4000 {
		ring := noiseRing(next)
		for range 5 {
			r := noiseRead(next, ring)
			b, e := Encode(ring, r)
			if e != api.OK || !bytes.Equal(b, stripeOf(secretOf(ring, r.Key), saidBy(r))) {
				t.Fatalf("P15.2: Encode of %+v = %v, %d", r, b, e)
			}
			for _, side := range [][]byte{b, turned(b), swipe.Turn(b)} {
				if got, f := Decode(ring, side); got != r || f != api.OK {
					t.Fatalf("P15.4: %+v was encoded as %v, and %v decoded as %+v, %d", r, b, side, got, f)
				}
			}
		}
	}
}

// TestDecodeAndEncode has digits with right tags, some of which say nothing that is right, and both directions.
func TestDecodeAndEncode(t *testing.T) {
	next := noise(4)
	counts := map[api.Errno]int{}
	for range 20000 {
		ring := noiseRing(next)
		r := noiseRead(next, ring)
		said := saidBy(r)
		for range next(3) {
			said[next(len(said))] = byte(next(10))
		}
		b := stripeOf(secretOf(ring, r.Key), said)
		if next(2) == 1 {
			b = turned(b)
		}
		counts[wantAsAsked(t, ring, b)]++
		encodeAgain(t, ring, b)
	}
	for _, e := range []api.Errno{api.OK, api.ErrKind, api.ErrLength, api.ErrField, api.ErrKey, api.ErrTag} {
		if counts[e] < 20 {
			t.Errorf("of those stripes %d are told %d: that tries too little", counts[e], e)
		}
	}
}

// encodeAgain tries T1 and P15.4 at b: what it says is encoded as b, or as b turned, and what is refused says nothing.
func encodeAgain(t *testing.T, ring []api.Key, b []byte) {
	t.Helper()
	r, e := Decode(ring, b)
	if e != api.OK {
		if r != (api.Read{}) {
			t.Fatalf("R1: Decode of %v = %+v, %d", b, r, e)
		}
		return
	}
	again, f := Encode(ring, r)
	if f != api.OK || !bytes.Equal(again, b) && !bytes.Equal(again, swipe.Turn(b)) {
		t.Fatalf("P15.4: %v was decoded as %+v, and encoded as %v, %d", b, r, again, f)
	}
}

func TestDecodeOfAnyBytes(t *testing.T) {
	next := noise(5)
	ring := keyRing()
	for x := range 1 << 16 {
		b := []byte{byte(x >> 8), byte(x)}
		wantAsAsked(t, ring, b)
		wantAsAsked(t, ring, append([]byte{212}, b...))
	}
	for range 20000 {
		b := noiseBytes(next, next(55), 256)
		wantAsAsked(t, ring, b)
		// Bytes that begin as a track does, and tracks of any digits, come further.
		if len(b) > 0 {
			b[0] = 0b11010<<3 | b[0]&7
			wantAsAsked(t, ring, b)
			wantAsAsked(t, ring, turned(b))
		}
		digits := noiseBytes(next, next(78), 10)
		wantAsAsked(t, ring, trackOf(digits))
		wantAsAsked(t, ring, turned(trackOf(digits)))
	}
}

// TestOneBitChanged knows no exception for a stripe that is a track turned round then, as there is none: with bits left over, it begins with four bits 0, three of which a beginning has otherwise; with none, as a season's, it ends in the 3 and the 11 of its beginning, where a track has its 15 and a Sum, or bits 0, which are two bits or more from that.
func TestOneBitChanged(t *testing.T) {
	next := noise(6)
	reads := ofEachKind()
	for range 60 {
		reads = append(reads, noiseRead(next, keyRing()))
	}
	for _, r := range reads {
		b, _ := Encode(keyRing(), r)
		for _, side := range [][]byte{b, turned(b)} {
			for i := range 8 * len(side) {
				changed := slices.Clone(side)
				changed[i/8] ^= 128 >> (i % 8)
				if e := wantAsAsked(t, keyRing(), changed); e == api.OK {
					t.Errorf("P15.4: bit %d of %v is changed, and it is decoded", i, side)
				}
			}
		}
	}
}

// TestTwoBitsChanged has pairs of bits, of which parity tells nothing if they are of one character.
func TestTwoBitsChanged(t *testing.T) {
	for _, b := range bytesOfEachKind() {
		for i := range 8 * len(b) {
			for j := max(0, i-12); j < i; j++ {
				changed := slices.Clone(b)
				changed[i/8] ^= 128 >> (i % 8)
				changed[j/8] ^= 128 >> (j % 8)
				wantAsAsked(t, keyRing(), changed)
				encodeAgain(t, keyRing(), changed)
			}
		}
	}
}

// TestTracksTurnedRound tells that no stripe turned round is a track by itself, so that each is decoded as what was encoded.
func TestTracksTurnedRound(t *testing.T) {
	next := noise(7)
	for range 20000 {
		r := noiseRead(next, keyRing())
		b := stripeOf(secretOf(keyRing(), r.Key), saidBy(r))
		if _, e := track.Get(turned(b)); e == api.OK {
			t.Fatalf("P15.4: %v turned round is a track", b)
		}
	}
}

// copied is l in other memory, down to the secrets, up to their capacity.
func copied(l []api.Key) []api.Key {
	out := slices.Clone(l)
	for i := range out {
		secret := out[i].Secret
		out[i].Secret = slices.Clone(secret[:cap(secret)])[:len(secret)]
	}
	return out
}

func TestArgumentsStay(t *testing.T) {
	for i, r := range ofEachKind() {
		ring := keyRing()
		for j := range ring {
			ring[j].Secret = append(make([]byte, 0, 100), ring[j].Secret...)
		}
		before := copied(ring)
		whole := append(slices.Clone(bytesOfEachKind()[i]), 1, 2, 3, 4, 5, 6, 7, 8, 9, 10, 11, 12, 13)
		end := len(whole) - 13
		said := saidBy(r)
		room := append(slices.Clone(said), bytes.Repeat([]byte{77}, 50)...)
		for _, n := range []int{end, end - 1, 5, 0} {
			Decode(ring, whole[:n])
			Decode(noRings()[0], whole[:n])
		}
		Encode(ring, r)
		Encode(ring, with(r, "Seat", 1))
		Tag(ring[1].Secret, room[:len(said)])
		if !bytes.Equal(whole, append(slices.Clone(bytesOfEachKind()[i]), 1, 2, 3, 4, 5, 6, 7, 8, 9, 10, 11, 12, 13)) {
			t.Errorf("R2: a stripe that was handed in was changed")
		}
		if !bytes.Equal(room, append(slices.Clone(said), bytes.Repeat([]byte{77}, 50)...)) {
			t.Errorf("R2: digits that were handed in were changed")
		}
		if !reflect.DeepEqual(ring, before) {
			t.Errorf("R2: a ring that was handed in was changed")
		}
	}
}

func TestAnswersStay(t *testing.T) {
	for i, r := range ofEachKind() {
		ring := keyRing()
		secret, said := slices.Clone(secretOf(ring, r.Key)), saidBy(r)
		b, _ := Encode(ring, r)
		tag := Tag(secret, said)
		got, _ := Decode(ring, b)
		want := slices.Clone(b)
		for j := range ring {
			clear(ring[j].Secret)
		}
		clear(said)
		Encode(keyRing(), back())
		Decode(keyRing(), bytesOfEachKind()[0])
		Tag([]byte("Jefe"), []byte{1, 9})
		if !bytes.Equal(b, want) || !bytes.Equal(tag, tagOf(secret, saidBy(r))) {
			t.Errorf("R2: what was answered was changed later")
		}
		clear(b)
		clear(tag)
		if got != r {
			t.Errorf("R2: what Decode answered was changed later")
		}
		wantEncode(t, keyRing(), r, bytesOfEachKind()[i], api.OK)
	}
}

func TestSameAgain(t *testing.T) {
	next := noise(8)
	for i, r := range ofEachKind() {
		for range 20 {
			Decode(keyRing(), noiseBytes(next, 27, 256))
			Decode(noRings()[1], bytesOfEachKind()[i])
			Encode(keyRing(), noiseRead(next, keyRing()))
			wantEncode(t, keyRing(), r, bytesOfEachKind()[i], api.OK)
			wantDecode(t, keyRing(), bytesOfEachKind()[i], r, api.OK)
		}
	}
}
