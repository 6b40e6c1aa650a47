package across

import (
	"bytes"
	"crypto/hmac"
	"crypto/sha256"
	"encoding/binary"
	"math"
	"math/big"
	"reflect"
	"slices"
	"strconv"
	"strings"
	"testing"

	"gateline/api"
	"gateline/barcode"
	"gateline/fits"
	"gateline/layout"
	"gateline/stripe"
	"gateline/swipe"
	"gateline/track"
)

const signs = "0123456789ABCDEFGHIJKLMNOPQRSTUVWXYZ $%*+-./:"

// farOff is numbers that are none of anything, at the ends of int and about them.
func farOff() []int {
	return []int{math.MinInt, math.MinInt + 1, math.MinInt32, -1000000000, -256, -2, -1, 1 << 32, 1<<32 + 1, 1 << 62, math.MaxInt - 1, math.MaxInt}
}

// keyRing is a ring of five keys; the secrets of all are others, and the days of most are over when tickets begin.
func keyRing() []api.Key {
	return []api.Key{
		{Id: 0, Secret: []byte("z"), From: 0, To: 0},
		{Id: 7, Secret: []byte("Jefe"), From: 0, To: 365},
		{Id: 40, Secret: bytes.Repeat([]byte("k"), 64), From: 99999, To: 99999},
		{Id: 41, Secret: []byte("another"), From: 0, To: 99999},
		{Id: 99, Secret: bytes.Repeat([]byte{11}, 20), From: 5, To: 6},
	}
}

// allKeys is a ring of keys of all numbers.
func allKeys() []api.Key {
	l := make([]api.Key, 100)
	for id := range l {
		l[id] = api.Key{Id: id, Secret: bytes.Repeat([]byte{byte(id + 1)}, 1+id%64), From: id, To: 99999 - id}
	}
	return l
}

// noRings is lists of keys that are no ring, though most of them have all keys of keyRing.
func noRings() [][]api.Key {
	with := func(change func(l []api.Key)) []api.Key {
		l := keyRing()
		change(l)
		return l
	}
	return [][]api.Key{
		with(func(l []api.Key) { l[0], l[1] = l[1], l[0] }),
		with(func(l []api.Key) { l[2].Id = 7 }),
		with(func(l []api.Key) { l[0].Id = -1 }),
		with(func(l []api.Key) { l[4].Id = 100 }),
		with(func(l []api.Key) { l[3].Secret = nil }),
		with(func(l []api.Key) { l[3].Secret = make([]byte, 65) }),
		with(func(l []api.Key) { l[3].From = -1 }),
		with(func(l []api.Key) { l[3].To = 100000 }),
		with(func(l []api.Key) { l[4].From = 7 }),
		append(keyRing(), keyRing()...),
		make([]api.Key, 1),
		{{Id: math.MinInt, Secret: []byte{1}}},
	}
}

// pair is one ticket on both media: what they say, and the stripe and the barcode by the keys of keyRing, as they were worked out elsewhere.
type pair struct {
	t        api.Ticket
	j        api.Journey
	stripeBy int
	version  int
	codeBy   int
	stripe   []byte
	code     string
}

// pairs has one of each kind of tickets.
func pairs() []pair {
	return []pair{
		{
			t: api.Ticket{Serial: 1, Kind: 1, From: 10, To: 20, Class: 2, Days: 1, Uses: 1},
			j: api.Journey{Left: 1, In: 0}, stripeBy: 7, version: 1, codeBy: 7,
			stripe: []byte{212, 2, 16, 132, 33, 130, 2, 16, 132, 33, 8, 96, 24, 5, 1, 12, 2, 16, 241, 2, 68, 4, 16, 243, 144, 250, 0},
			code:   "W50X50%504H0Z50W50LS01C1660%*0SB0W50RJTXH8Y54-KG-PVE0TT10.K1YFN-$B0X5X5I5ZV+ZCK7DDYN",
		},
		{
			t: api.Ticket{Serial: 9999999, Kind: 2, From: 39, To: 0, Class: 1, Card: 3, Start: 99999, Days: 1, Uses: 2, Epoch: 9},
			j: api.Journey{Left: 1, In: 40}, stripeBy: 99, version: 2, codeBy: 40,
			stripe: []byte{210, 39, 57, 206, 115, 156, 51, 57, 206, 115, 8, 97, 60, 204, 33, 12, 8, 25, 206, 8, 16, 166, 34, 87, 34, 254, 128},
			code:   "W50JB0Q604H0LB0KK071JLS01.4W50O01DH04H0%0HRH1:50+506JA:CBW+65XVT3R-1DASEV$ISPET4K8WP%NS.Q3BG4BZKKS0",
		},
		{
			t: api.Ticket{Serial: 77, Kind: 3, From: 2, To: 4, Class: 2, Card: 1, Start: 500, Days: 30, Epoch: 3},
			j: api.Journey{Left: 0, In: 21}, stripeBy: 0, version: 3, codeBy: 0,
			stripe: []byte{214, 66, 16, 132, 60, 226, 32, 16, 212, 33, 14, 67, 148, 16, 33, 68, 2, 20, 54, 21, 32, 69, 1, 35, 249},
			code:   "W506H0Y50ZM07X9X507Y0-M0X50O01-50IB0F%UG60:S11L02+H+SNM 0$3NDQ38MAJ*KCFRXKG78C18NAFKX$PT1SYJ824",
		},
		{
			t: api.Ticket{Serial: 1234567, Kind: 4, From: 3, To: 15, Class: 1, Card: 2, Start: 99001, Days: 999, Uses: 20, Epoch: 1},
			j: api.Journey{Left: 13, In: 5}, stripeBy: 40, version: 2, codeBy: 41,
			stripe: []byte{209, 32, 140, 146, 173, 228, 17, 57, 132, 48, 156, 231, 0, 230, 21, 64, 97, 144, 212, 129, 132, 197, 54, 212, 65, 23, 63, 0},
			code:   "W50JB0R604H0%M0LH0J5RLS09H0160%*0*50X50/B1Q80VHNKB0I9T660:S1C7091SSRTNEPC-6-WV:M9G60F3SLH94EAA.3QMANULD7AQ3DW4",
		},
	}
}

// ofEachKind is a right ticket of each kind, which asks for nothing that a medium may lack.
func ofEachKind() []api.Ticket {
	l := []api.Ticket{}
	for _, p := range pairs() {
		l = append(l, with(p.t, "Card", 0))
	}
	return l
}

// with is t with one field that is another.
func with(t api.Ticket, name string, n int) api.Ticket {
	*map[string]*int{
		"Serial": &t.Serial, "Kind": &t.Kind, "From": &t.From, "To": &t.To, "Class": &t.Class, "Card": &t.Card,
		"Seat": &t.Seat, "Start": &t.Start, "Days": &t.Days, "Uses": &t.Uses, "Epoch": &t.Epoch,
	}[name] = n
	return t
}

// digitsOf is text of decimal digits as digits; blanks are none.
func digitsOf(text string) []byte {
	l := []byte{}
	for _, c := range strings.ReplaceAll(text, " ", "") {
		l = append(l, byte(c-'0'))
	}
	return l
}

// textOf is n as width digits, in text; n has no more digits.
func textOf(n, width int) string {
	s := strconv.Itoa(n)
	return strings.Repeat("0", width-len(s)) + s
}

// saidBy is what a stripe says, as digits.
func saidBy(t api.Ticket, j api.Journey, key int) []byte {
	end := 2
	if t.Kind == 3 {
		end = 1
	}
	s := textOf(t.Kind, 1) + textOf(t.Serial, 7) + textOf(t.Class, 1) + textOf(t.Card, 1) + textOf(t.Start, 5) + textOf(t.Days, 3) + textOf(t.Epoch, 1)
	s += textOf(t.From, end) + textOf(t.To, end)
	if t.Kind == 4 {
		s += textOf(t.Uses, 2)
	}
	return digitsOf(s + textOf(j.Left, 2) + textOf(j.In, 2) + textOf(key, 2))
}

// charTexts is the characters of the values from 0 on, their lowest bits first.
func charTexts() []string {
	return []string{"00001", "10000", "01000", "11001", "00100", "10101", "01101", "11100", "00010", "10011", "01011", "11010", "00111", "10110", "01110", "11111"}
}

// charsOf is the characters of those values, as bytes.
func charsOf(values ...int) []byte {
	text := ""
	for _, v := range values {
		text += charTexts()[v]
	}
	for len(text)%8 != 0 {
		text += "0"
	}
	b := make([]byte, len(text)/8)
	for i := range text {
		b[i/8] = b[i/8]*2 + text[i] - '0'
	}
	return b
}

// trackOf is the track of those digits.
func trackOf(digits []byte) []byte {
	values, sum := []int{11}, 11^15
	for _, d := range digits {
		values = append(values, int(d))
		sum ^= int(d)
	}
	return charsOf(append(values, 15, sum)...)
}

// tagOf is the library's HMAC of a mark and what is said.
func tagOf(secret []byte, mark byte, said []byte) []byte {
	h := hmac.New(sha256.New, secret)
	h.Write([]byte{mark})
	h.Write(said)
	return h.Sum(nil)
}

// taggedStripe is the stripe of those digits, with the tag that secret makes of them.
func taggedStripe(secret, said []byte) []byte {
	cut := binary.BigEndian.Uint32(tagOf(secret, 'S', said))
	return trackOf(slices.Concat(said, digitsOf(textOf(int(cut), 10))))
}

// signsOf is bytes as Base45.
func signsOf(b []byte) []byte {
	out := []byte{}
	for pair := range slices.Chunk(b, 2) {
		n := int(pair[0])
		if len(pair) == 2 {
			n = n*256 + int(pair[1])
		}
		for range len(pair) + 1 {
			out = append(out, signs[n%45])
			n /= 45
		}
	}
	return out
}

// bodyOf is the body of a barcode; each number is as few bytes as it has, and none if it is 0.
func bodyOf(t api.Ticket, version, key int) []byte {
	body := []byte{}
	for i, n := range []int{version, key, t.Kind, t.Serial, t.From, t.To, t.Class, t.Card, t.Seat, t.Start, t.Days, t.Uses, t.Epoch} {
		if n == 0 || i == 11 && t.Kind != 4 {
			continue
		}
		value := big.NewInt(int64(n)).Bytes()
		body = append(append(body, byte(i+1), byte(len(value))), value...)
	}
	return body
}

// taggedCode is the barcode of that body, with the tag that secret makes of it.
func taggedCode(secret, body []byte) []byte {
	return signsOf(slices.Concat(body, tagOf(secret, 'B', body)))
}

// secretOf is the secret of the key of that number; there is one.
func secretOf(ring []api.Key, id int) []byte {
	return ring[slices.IndexFunc(ring, func(k api.Key) bool { return k.Id == id })].Secret
}

// stripeOf is the stripe that says that, told without the program; its key is of ring.
func stripeOf(ring []api.Key, t api.Ticket, j api.Journey, key int) []byte {
	return taggedStripe(secretOf(ring, key), saidBy(t, j, key))
}

// codeOf is the barcode that says that, told without the program; its key is of ring.
func codeOf(ring []api.Key, t api.Ticket, version, key int) []byte {
	return taggedCode(secretOf(ring, key), bodyOf(t, version, key))
}

// turned is b with its bits the other way round.
func turned(b []byte) []byte {
	out := make([]byte, len(b))
	for i := range 8 * len(b) {
		if b[i/8]&(128>>(i%8)) != 0 {
			out[len(b)-1-i/8] |= 1 << (i % 8)
		}
	}
	return out
}

// noise is numbers without a pattern, always the same ones of one seed.
func noise(seed uint64) func(n int) int {
	x := seed*0x9e3779b97f4a7c15 + 1
	return func(n int) int {
		x ^= x << 13
		x ^= x >> 7
		x ^= x << 17
		return int(x>>1) % n
	}
}

// noiseBytes is n bytes without a pattern.
func noiseBytes(next func(n int) int, n int) []byte {
	b := make([]byte, n)
	for i := range b {
		b[i] = byte(next(256))
	}
	return b
}

// noiseRing is some ring of a few keys.
func noiseRing(next func(n int) int) []api.Key {
	l := []api.Key{}
	for id := next(20); id < 100; id += 1 + next(30) {
		from := next(100000)
		l = append(l, api.Key{Id: id, Secret: noiseBytes(next, 1+next(64)), From: from, To: from + next(100000-from)})
	}
	return l
}

// noiseKey is the number of some key of ring.
func noiseKey(next func(n int) int, ring []api.Key) int {
	return ring[next(len(ring))].Id
}

// noiseTicket is some right ticket that has room on a stripe; many have no card.
func noiseTicket(next func(n int) int) api.Ticket {
	t := api.Ticket{Serial: 1 + next(1+next(9999999)), Kind: 1 + next(4), Class: 1 + next(2), Card: next(4) * next(2), Start: next(100000), Epoch: next(10)}
	t.Days = 1 + next(min(999, 100000-t.Start))
	t.From = next(40)
	t.To = (t.From + 1 + next(39)) % 40
	switch t.Kind {
	case 1, 2:
		t.Uses = t.Kind
	case 3:
		t.From = 1 + next(6)
		t.To = t.From + next(7-t.From)
	case 4:
		t.Uses = 2 + next(19)
	}
	return t
}

// noiseJourney is some journey that suits t.
func noiseJourney(next func(n int) int, t api.Ticket) api.Journey {
	return api.Journey{Left: next(t.Uses + 1), In: next(41)}
}

// wantBarcode holds ToBarcode, of b and of b turned round, against the barcode and the journey that are wanted, or the error.
func wantBarcode(t *testing.T, ring []api.Key, b []byte, version, key int, want []byte, j api.Journey, code api.Errno) {
	t.Helper()
	for _, side := range [][]byte{b, turned(b)} {
		got, told, e := ToBarcode(ring, side, version, key)
		if e != code || !bytes.Equal(got, want) || told != j || code != api.OK && got != nil {
			t.Errorf("P21.1: ToBarcode of %v, the version %d and the key %d = %q, %+v, %d, want %q, %+v, %d", side, version, key, got, told, e, want, j, code)
		}
	}
}

// noBarcode holds that ToBarcode tells that error, and nothing else (R1).
func noBarcode(t *testing.T, ring []api.Key, b []byte, version, key int, code api.Errno) {
	t.Helper()
	if got, told, e := ToBarcode(ring, b, version, key); e != code || got != nil || told != (api.Journey{}) {
		t.Errorf("P21.1: ToBarcode of %v, the version %d and the key %d = %q, %+v, %d, want %d", b, version, key, got, told, e, code)
	}
}

// wantStripe holds ToStripe against the stripe that is wanted, or the error.
func wantStripe(t *testing.T, ring []api.Key, s []byte, j api.Journey, key int, want []byte, code api.Errno) {
	t.Helper()
	if got, e := ToStripe(ring, s, j, key); e != code || !bytes.Equal(got, want) || code != api.OK && got != nil {
		t.Errorf("P21.2: ToStripe of %q, %+v and the key %d = %v, %d, want %v, %d", s, j, key, got, e, want, code)
	}
}

func TestExamples(t *testing.T) {
	for _, p := range pairs() {
		wantBarcode(t, keyRing(), p.stripe, p.version, p.codeBy, []byte(p.code), p.j, api.OK)
		wantStripe(t, keyRing(), []byte(p.code), p.j, p.stripeBy, p.stripe, api.OK)
		if !bytes.Equal(stripeOf(keyRing(), p.t, p.j, p.stripeBy), p.stripe) || string(codeOf(keyRing(), p.t, p.version, p.codeBy)) != p.code {
			t.Errorf("the examples of %+v are not the same", p.t)
		}
	}
}

// TestEachVersionAndKey has all numbers of keys, of what is read and of what is written, and all versions.
func TestEachVersionAndKey(t *testing.T) {
	ring := allKeys()
	for _, p := range pairs() {
		for card := range 4 {
			x := with(p.t, "Card", card)
			for key := range 100 {
				of := (key*37 + card) % 100
				b := stripeOf(ring, x, p.j, of)
				for version := 1; version <= 3; version++ {
					if card > 0 && version == 1 {
						wantBarcode(t, ring, b, version, key, nil, api.Journey{}, api.ErrFit)
						continue
					}
					s := codeOf(ring, x, version, key)
					wantBarcode(t, ring, b, version, key, s, p.j, api.OK)
					wantStripe(t, ring, s, p.j, of, b, api.OK)
				}
			}
		}
	}
}

// TestEachJourney has all journeys that suit a ticket, and those about them, which do not.
func TestEachJourney(t *testing.T) {
	for _, p := range pairs() {
		for left := -1; left <= 21; left++ {
			for in := -1; in <= 41; in++ {
				j := api.Journey{Left: left, In: in}
				if left < 0 || left > p.t.Uses || in < 0 || in > 40 {
					wantStripe(t, keyRing(), []byte(p.code), j, p.stripeBy, nil, api.ErrArg)
					continue
				}
				b := stripeOf(keyRing(), p.t, j, p.stripeBy)
				wantStripe(t, keyRing(), []byte(p.code), j, p.stripeBy, b, api.OK)
				wantBarcode(t, keyRing(), b, p.version, p.codeBy, []byte(p.code), j, api.OK)
			}
		}
		for _, n := range farOff() {
			wantStripe(t, keyRing(), []byte(p.code), api.Journey{Left: n}, p.stripeBy, nil, api.ErrArg)
			wantStripe(t, keyRing(), []byte(p.code), api.Journey{In: n}, p.stripeBy, nil, api.ErrArg)
		}
	}
}

// wrongStripe is bytes that are no stripe of what a ring has.
type wrongStripe struct {
	b    []byte
	want api.Errno
}

// wrongStripes is one or more of each error of chapter 15's Decode, by keyRing.
func wrongStripes() []wrongStripe {
	p := pairs()[0]
	said := saidBy(p.t, p.j, 7)
	other := slices.Clone(p.stripe)
	other[3] ^= 4
	return []wrongStripe{
		{nil, api.ErrLength}, {[]byte{212}, api.ErrLength}, {make([]byte, 51), api.ErrLength}, {p.stripe[:len(p.stripe)-2], api.ErrEnd},
		{append(slices.Clone(p.stripe), 0), api.ErrLength}, {make([]byte, 27), api.ErrStart}, {p.stripe[1:], api.ErrStart}, {other, api.ErrParity},
		{charsOf(11, 1, 2, 3, 4, 5, 6, 7), api.ErrEnd}, {charsOf(11, 10, 15, 14), api.ErrDigit}, {charsOf(11, 1, 9, 15, 0), api.ErrSum}, {trackOf(make([]byte, 78)), api.ErrLength},
		{charsOf(append(append([]int{11}, make([]int, 77)...), 15, 0)...), api.ErrSum},
		{trackOf(nil), api.ErrLength}, {trackOf(make([]byte, 9)), api.ErrLength}, {trackOf(make([]byte, 10)), api.ErrLength}, {trackOf(make([]byte, 30)), api.ErrKind},
		{taggedStripe([]byte("Jefe"), said[1:]), api.ErrKind}, {taggedStripe([]byte("Jefe"), said[:len(said)-1]), api.ErrLength},
		{taggedStripe([]byte("Jefe"), saidBy(with(p.t, "Serial", 0), p.j, 7)), api.ErrField}, {taggedStripe([]byte("Jefe"), saidBy(p.t, api.Journey{Left: 2}, 7)), api.ErrField},
		{taggedStripe([]byte("Jefe"), saidBy(p.t, api.Journey{In: 41}, 7)), api.ErrField}, {taggedStripe([]byte("Jefe"), saidBy(p.t, p.j, 50)), api.ErrKey},
		{taggedStripe([]byte("Jefe"), saidBy(p.t, p.j, 99)), api.ErrTag}, {trackOf(append(slices.Clone(said), make([]byte, 10)...)), api.ErrTag},
		{[]byte(p.code), api.ErrLength}, {[]byte(p.code)[:27], api.ErrStart},
	}
}

// TestNoStripes has all that a stripe may lack, whatever version and key are asked for.
func TestNoStripes(t *testing.T) {
	for _, x := range wrongStripes() {
		for _, version := range []int{1, 2, 3, 0, 4, math.MinInt, math.MaxInt} {
			for _, key := range []int{7, 99, 50, -1, 100, math.MinInt, math.MaxInt} {
				noBarcode(t, keyRing(), x.b, version, key, x.want)
			}
		}
		// No ring is told ahead of all that.
		for _, ring := range noRings() {
			noBarcode(t, ring, x.b, 1, 7, api.ErrArg)
			noBarcode(t, ring, x.b, 0, 50, api.ErrArg)
		}
	}
	for _, p := range pairs() {
		for _, ring := range noRings() {
			wantBarcode(t, ring, p.stripe, p.version, p.codeBy, nil, api.Journey{}, api.ErrArg)
			wantBarcode(t, ring, p.stripe, 1, 50, nil, api.Journey{}, api.ErrArg)
		}
	}
}

// TestLongTracks has tracks of more digits than any stripe has, up to the most that a track has.
func TestLongTracks(t *testing.T) {
	for n := 42; n <= 77; n++ {
		digits := make([]byte, n)
		digits[0] = 4
		wantBarcode(t, keyRing(), trackOf(digits), 3, 7, nil, api.Journey{}, api.ErrLength)
	}
}

// TestBarcodesThatAreRefused has right stripes, and versions and keys of which there is no barcode.
func TestBarcodesThatAreRefused(t *testing.T) {
	for _, p := range pairs() {
		for _, card := range []int{0, 1, 3} {
			b := stripeOf(keyRing(), with(p.t, "Card", card), p.j, p.stripeBy)
			for _, n := range append(farOff(), -3, 0, 4, 5, 255, 257) {
				wantBarcode(t, keyRing(), b, n, p.codeBy, nil, api.Journey{}, api.ErrArg)
				// It is told ahead of a key that there is not.
				wantBarcode(t, keyRing(), b, n, 50, nil, api.Journey{}, api.ErrArg)
			}
			for _, n := range append(farOff(), 100, 101, 107, 256+7) {
				for version := 1; version <= 3; version++ {
					// It is told ahead of what has no room.
					wantBarcode(t, keyRing(), b, version, n, nil, api.Journey{}, api.ErrArg)
				}
			}
			for _, key := range []int{1, 6, 8, 39, 50, 98} {
				for version := 1; version <= 3; version++ {
					code := api.ErrKey
					if card > 0 && version == 1 {
						code = api.ErrFit
					}
					wantBarcode(t, keyRing(), b, version, key, nil, api.Journey{}, code)
				}
			}
		}
	}
}

// wrongCode is signs that are no barcode of what a ring has.
type wrongCode struct {
	s    []byte
	want api.Errno
}

// wrongCodes is one or more of each error of chapter 19's Decode, by keyRing.
func wrongCodes() []wrongCode {
	p := pairs()[0]
	s := []byte(p.code)
	body := bodyOf(p.t, 1, 7)
	put := func(at int, text string) []byte {
		other := slices.Clone(s)
		copy(other[at:], text)
		return other
	}
	tagged := func(body ...byte) []byte {
		return taggedCode([]byte("Jefe"), body)
	}
	return []wrongCode{
		{nil, api.ErrLength}, {s[:1], api.ErrLength}, {s[:9], api.ErrLength}, {signsOf(make([]byte, 31)), api.ErrLength}, {append(slices.Clone(s), '0'), api.ErrLength},
		{put(0, "!"), api.ErrDigit}, {put(5, "w"), api.ErrDigit}, {put(3, "GGW"), api.ErrOver},
		{tagged(0, 0), api.ErrOrder}, {tagged(append(slices.Clone(body), 1, 0)...), api.ErrOrder}, {tagged(1), api.ErrLength}, {tagged(body[:len(body)-1]...), api.ErrLength},
		{tagged(), api.ErrVersion}, {tagged(body[3:]...), api.ErrVersion}, {tagged(append([]byte{1, 1, 4}, body[3:]...)...), api.ErrVersion},
		{taggedCode([]byte("Jefe"), bodyOf(with(p.t, "Card", 1), 1, 7)), api.ErrVersion}, {taggedCode([]byte("Jefe"), bodyOf(with(p.t, "Seat", 1), 2, 7)), api.ErrVersion},
		{tagged(append(slices.Clone(body), 14, 0)...), api.ErrUnknown}, {tagged(append(slices.Clone(body), 128, 0)...), api.ErrMust}, {tagged(append(slices.Clone(body), 13, 0)...), api.ErrLength},
		{tagged(append(slices.Clone(body), 12, 1, 1)...), api.ErrField}, {taggedCode([]byte("Jefe"), bodyOf(with(p.t, "Serial", 0), 1, 7)), api.ErrField},
		{taggedCode([]byte("Jefe"), bodyOf(p.t, 1, 100)), api.ErrField}, {taggedCode([]byte("Jefe"), bodyOf(p.t, 1, 50)), api.ErrKey},
		{taggedCode([]byte("Jefe"), bodyOf(p.t, 1, 99)), api.ErrTag}, {signsOf(append(slices.Clone(body), make([]byte, 32)...)), api.ErrTag},
		{p.stripe, api.ErrDigit}, {p.stripe[:25], api.ErrLength},
	}
}

// TestNoBarcodes has all that a barcode may lack, whatever journey and key are asked for.
func TestNoBarcodes(t *testing.T) {
	journeys := []api.Journey{{}, {Left: 1, In: 3}, {Left: 2}, {In: 41}, {Left: -1, In: -1}, {Left: math.MaxInt, In: math.MinInt}}
	for _, x := range wrongCodes() {
		for _, j := range journeys {
			for _, key := range []int{7, 99, 50, -1, 100, math.MinInt, math.MaxInt} {
				wantStripe(t, keyRing(), x.s, j, key, nil, x.want)
			}
			// No ring is told ahead of all that.
			for _, ring := range noRings() {
				wantStripe(t, ring, x.s, j, 7, nil, api.ErrArg)
			}
		}
	}
	for _, p := range pairs() {
		for _, ring := range noRings() {
			wantStripe(t, ring, []byte(p.code), p.j, p.stripeBy, nil, api.ErrArg)
			wantStripe(t, ring, []byte(p.code), p.j, 50, nil, api.ErrArg)
		}
	}
}

// TestStripesThatAreRefused has right barcodes, and keys of which there is no stripe, or tickets that have no room on one.
func TestStripesThatAreRefused(t *testing.T) {
	for _, p := range pairs() {
		for _, x := range []struct {
			t    api.Ticket
			room bool
		}{
			{p.t, true}, {with(p.t, "Serial", 9999999), true}, {with(p.t, "Serial", 10000000), false}, {with(p.t, "Serial", 1<<32+1), false}, {with(p.t, "Serial", 1<<40), false},
			{with(p.t, "Seat", 1), false}, {with(p.t, "Seat", 999), false}, {with(with(p.t, "Seat", 256), "Serial", 10000000), false},
		} {
			s := codeOf(keyRing(), x.t, 3, p.codeBy)
			for _, key := range append(farOff(), 100, 101, 256+7) {
				wantStripe(t, keyRing(), s, p.j, key, nil, api.ErrArg)
			}
			// A journey that does not suit is told ahead of what has no room, and that ahead of a key that there is not.
			for _, key := range []int{1, 6, 8, 39, 50, 98, p.stripeBy} {
				wantStripe(t, keyRing(), s, api.Journey{Left: p.t.Uses + 1}, key, nil, api.ErrArg)
				wantStripe(t, keyRing(), s, api.Journey{In: 41}, key, nil, api.ErrArg)
				if !x.room {
					wantStripe(t, keyRing(), s, p.j, key, nil, api.ErrFit)
					continue
				}
				if key != p.stripeBy {
					wantStripe(t, keyRing(), s, p.j, key, nil, api.ErrKey)
				}
			}
			if x.room {
				wantStripe(t, keyRing(), s, p.j, p.stripeBy, stripeOf(keyRing(), x.t, p.j, p.stripeBy), api.OK)
			}
		}
	}
}

// TestOtherRings tells that both keys are of the ring that is handed in: the one that is read by, and the one that is written by.
func TestOtherRings(t *testing.T) {
	ring := keyRing()
	for _, p := range pairs() {
		wantBarcode(t, nil, p.stripe, p.version, p.codeBy, nil, api.Journey{}, api.ErrKey)
		wantStripe(t, nil, []byte(p.code), p.j, p.stripeBy, nil, api.ErrKey)
		for i, k := range ring {
			less := slices.Delete(keyRing(), i, i+1)
			other := keyRing()
			other[i].Secret = []byte("other")
			b, s := stripeOf(ring, p.t, p.j, k.Id), codeOf(ring, p.t, p.version, k.Id)
			// What is read is by another key than what is written, and then the other way.
			to := ring[(i+1)%len(ring)].Id
			wantBarcode(t, less, b, p.version, to, nil, api.Journey{}, api.ErrKey)
			wantStripe(t, less, s, p.j, to, nil, api.ErrKey)
			wantBarcode(t, other, b, p.version, to, nil, api.Journey{}, api.ErrTag)
			wantStripe(t, other, s, p.j, to, nil, api.ErrTag)
			b, s = stripeOf(ring, p.t, p.j, to), codeOf(ring, p.t, p.version, to)
			wantBarcode(t, less, b, p.version, k.Id, nil, api.Journey{}, api.ErrKey)
			wantStripe(t, less, s, p.j, k.Id, nil, api.ErrKey)
			wantBarcode(t, other, b, p.version, k.Id, codeOf(other, p.t, p.version, k.Id), p.j, api.OK)
			wantStripe(t, other, s, p.j, k.Id, stripeOf(other, p.t, p.j, k.Id), api.OK)
		}
	}
}

// barcodeAsked is what P21.1 asks by the exported calls of the layers below.
func barcodeAsked(ring []api.Key, b []byte, version, key int) ([]byte, api.Journey, api.Errno) {
	told, e := stripe.Decode(ring, b)
	if e != api.OK {
		return nil, api.Journey{}, e
	}
	s, e := barcode.Encode(ring, api.Read{T: told.T, Key: key, Version: version})
	if e != api.OK {
		return nil, api.Journey{}, e
	}
	return s, told.J, api.OK
}

// stripeAsked is what P21.2 asks, likewise.
func stripeAsked(ring []api.Key, s []byte, j api.Journey, key int) ([]byte, api.Errno) {
	told, e := barcode.Decode(ring, s)
	if e != api.OK {
		return nil, e
	}
	return stripe.Encode(ring, api.Read{T: told.T, Key: key, J: j})
}

// barcodeAsAsked tries ToBarcode against barcodeAsked, and tells its error.
func barcodeAsAsked(t *testing.T, ring []api.Key, b []byte, version, key int) api.Errno {
	t.Helper()
	want, j, code := barcodeAsked(ring, b, version, key)
	if got, told, e := ToBarcode(ring, b, version, key); e != code || !bytes.Equal(got, want) || told != j || code != api.OK && got != nil {
		t.Errorf("P21.1: ToBarcode of %v, the version %d and the key %d = %q, %+v, %d, want %q, %+v, %d", b, version, key, got, told, e, want, j, code)
	}
	return code
}

// stripeAsAsked tries ToStripe against stripeAsked, and tells its error.
func stripeAsAsked(t *testing.T, ring []api.Key, s []byte, j api.Journey, key int) api.Errno {
	t.Helper()
	want, code := stripeAsked(ring, s, j, key)
	wantStripe(t, ring, s, j, key, want, code)
	return code
}

// TestChangedMedia has media of which some digits, bytes or bits are others, some of them with right tags.
func TestChangedMedia(t *testing.T) {
	next := noise(1)
	stripes, codes := map[api.Errno]int{}, map[api.Errno]int{}
	for range 10000 {
		ring := noiseRing(next)
		x := noiseTicket(next)
		by := noiseKey(next, ring)
		said, body := saidBy(x, noiseJourney(next, x), by), bodyOf(with(x, "Seat", next(3)/2), 1+next(3), by)
		if next(2) == 0 {
			said[next(len(said))] = byte(next(10))
			body[next(len(body))] = byte(next(256))
		}
		b, s := taggedStripe(secretOf(ring, by), said), taggedCode(secretOf(ring, by), body)
		switch next(4) {
		case 0:
			b = turned(b)
		case 1:
			b[next(len(b))] ^= 1 << next(8)
			s[next(len(s))] = signs[next(45)]
		}
		key := noiseKey(next, ring)
		if next(8) == 0 {
			key = next(102) - 1
		}
		stripes[barcodeAsAsked(t, ring, b, next(5), key)]++
		codes[stripeAsAsked(t, ring, s, api.Journey{Left: next(4), In: next(42)}, key)]++
	}
	for _, e := range []api.Errno{api.OK, api.ErrArg, api.ErrParity, api.ErrField, api.ErrKey, api.ErrFit} {
		if stripes[e] < 20 {
			t.Errorf("of those stripes %d are told %d: that tries too little", stripes[e], e)
		}
	}
	for _, e := range []api.Errno{api.OK, api.ErrArg, api.ErrField, api.ErrKey, api.ErrTag, api.ErrVersion, api.ErrFit} {
		if codes[e] < 20 {
			t.Errorf("of those barcodes %d are told %d: that tries too little", codes[e], e)
		}
	}
}

func TestAnyBytes(t *testing.T) {
	next := noise(2)
	for range 10000 {
		b := noiseBytes(next, next(130))
		barcodeAsAsked(t, keyRing(), b, 1+next(3), 7)
		stripeAsAsked(t, keyRing(), b, api.Journey{}, 7)
		stripeAsAsked(t, keyRing(), signsOf(b), api.Journey{}, 7)
	}
	for _, n := range []int{0, 1, 2, 1000, 70000} {
		b := noiseBytes(next, n)
		barcodeAsAsked(t, keyRing(), b, 1, 7)
		stripeAsAsked(t, keyRing(), b, api.Journey{}, 7)
	}
	noBarcode(t, nil, nil, 0, 0, api.ErrLength)
	wantStripe(t, nil, nil, api.Journey{}, 0, nil, api.ErrLength)
}

// stripeGoesRound tries P21.3 and T2 at the stripe b, which says that: as a barcode by the key through, and back.
func stripeGoesRound(t *testing.T, ring []api.Key, b []byte, x api.Ticket, by, version, through int) {
	t.Helper()
	for _, side := range [][]byte{b, swipe.Turn(b)} {
		s, j, e := ToBarcode(ring, side, version, through)
		if !fits.Barcode(x, version) {
			if e != api.ErrFit {
				t.Errorf("T2: %+v has no room on version %d, and ToBarcode tells %d", x, version, e)
			}
			continue
		}
		again, f := ToStripe(ring, s, j, by)
		if e != api.OK || f != api.OK || !bytes.Equal(again, b) {
			t.Errorf("P21.3: %v is the barcode %q, %d, and that the stripe %v, %d, want %v", side, s, e, again, f, b)
		}
	}
}

// barcodeGoesRound tries P21.3 and T2 at the barcode s, which says that: as a stripe of j by the key through, and back.
func barcodeGoesRound(t *testing.T, ring []api.Key, s []byte, x api.Ticket, version, by int, j api.Journey, through int) {
	t.Helper()
	b, e := ToStripe(ring, s, j, through)
	keyed := slices.ContainsFunc(ring, func(k api.Key) bool { return k.Id == through })
	if can := fits.Stripe(x) && layout.Suits(x, j) && keyed; can != (e == api.OK) {
		t.Errorf("P21.3: ToStripe of %+v, %+v and the key %d tells %d, want no error just if %t", x, j, through, e, can)
	}
	if e != api.OK {
		return
	}
	for _, side := range [][]byte{b, swipe.Turn(b)} {
		again, told, f := ToBarcode(ring, side, version, by)
		if f != api.OK || told != j || !bytes.Equal(again, s) {
			t.Errorf("P21.3: %q is the stripe %v, and that the barcode %q, %+v, %d", s, side, again, told, f)
		}
	}
}

func TestThereAndBack(t *testing.T) {
	next := noise(3)
	counts := map[api.Errno]int{}
	for range 4000 {
		ring := noiseRing(next)
		x := noiseTicket(next)
		j, version := noiseJourney(next, x), 1+next(3)
		by, through := noiseKey(next, ring), noiseKey(next, ring)
		stripeGoesRound(t, ring, stripeOf(ring, x, j, by), x, by, version, through)
		stripeGoesRound(t, ring, stripeOf(ring, x, j, by), x, by, version, by)
		if next(3) == 0 {
			x = with(x, "Serial", 9999990+next(20))
		}
		if next(5) == 0 {
			x = with(x, "Seat", 1+next(999))
		}
		version = max(version, 1+min(x.Card, 1), 1+2*min(x.Seat, 1))
		if next(4) == 0 {
			j = api.Journey{Left: next(22) - 1, In: next(43) - 1}
		}
		s := codeOf(ring, x, version, by)
		barcodeGoesRound(t, ring, s, x, version, by, j, by)
		barcodeGoesRound(t, ring, s, x, version, by, j, next(100))
		counts[stripeAsAsked(t, ring, s, j, through)]++
	}
	for _, e := range []api.Errno{api.OK, api.ErrArg, api.ErrFit} {
		if counts[e] < 200 {
			t.Errorf("of those barcodes %d are told %d: that tries too little", counts[e], e)
		}
	}
}

// TestEachThereAndBack has tickets of each kind, with each of what a medium may lack, and all versions.
func TestEachThereAndBack(t *testing.T) {
	ring := keyRing()
	for _, x := range ofEachKind() {
		for _, serial := range []int{1, 9999999, 10000000, 1 << 40} {
			for card := range 4 {
				for _, seat := range []int{0, 1, 999} {
					y := with(with(with(x, "Serial", serial), "Card", card), "Seat", seat)
					for i, k := range ring {
						through := ring[(i+2)%len(ring)].Id
						for version := 1; version <= 3; version++ {
							if fits.Stripe(y) {
								stripeGoesRound(t, ring, stripeOf(ring, y, api.Journey{Left: y.Uses, In: 40}, k.Id), y, k.Id, version, through)
							}
							if !fits.Barcode(y, version) {
								continue
							}
							s := codeOf(ring, y, version, k.Id)
							for _, j := range []api.Journey{{}, {Left: y.Uses, In: 40}, {Left: y.Uses + 1}, {Left: -1}, {In: 41}, {In: -1}} {
								barcodeGoesRound(t, ring, s, y, version, k.Id, j, through)
								barcodeGoesRound(t, ring, s, y, version, k.Id, j, 50)
							}
						}
					}
				}
			}
		}
	}
}

// TestTurnedRound tells that no stripe of these is a track turned round, so that the exception of chapter 15 plays no part in what is tried here.
func TestTurnedRound(t *testing.T) {
	next := noise(4)
	for range 5000 {
		x := noiseTicket(next)
		b := stripeOf(keyRing(), x, noiseJourney(next, x), noiseKey(next, keyRing()))
		if _, e := track.Get(turned(b)); e == api.OK {
			t.Errorf("P21.3: %v turned round is a track", b)
		}
	}
}

// roomyRing is keyRing with room behind each secret.
func roomyRing() []api.Key {
	l := keyRing()
	for i := range l {
		l[i].Secret = append(make([]byte, 0, 100), l[i].Secret...)
	}
	return l
}

// whole is all bytes of the secrets of a ring, up to the ends of their memory.
func whole(l []api.Key) [][]byte {
	out := [][]byte{}
	for _, k := range l {
		out = append(out, slices.Clone(k.Secret[:cap(k.Secret)]))
	}
	return out
}

func TestArgumentsStay(t *testing.T) {
	for _, p := range pairs() {
		ring := roomyRing()
		secrets := whole(ring)
		for _, b := range [][]byte{p.stripe, turned(p.stripe), []byte(p.code), p.stripe[:9], []byte(p.code)[:9]} {
			room := append(slices.Clone(b), bytes.Repeat([]byte{77}, 50)...)
			handed := room[:len(b)]
			for _, key := range []int{7, 50, 100} {
				for version := range 5 {
					ToBarcode(ring, handed, version, key)
				}
				ToStripe(ring, handed, p.j, key)
				ToStripe(ring, handed, api.Journey{Left: 99}, key)
			}
			if !bytes.Equal(room, append(slices.Clone(b), bytes.Repeat([]byte{77}, 50)...)) {
				t.Errorf("R2: a medium that was handed in was changed")
			}
		}
		if !reflect.DeepEqual(whole(ring), secrets) || !reflect.DeepEqual(ring, keyRing()) {
			t.Errorf("R2: a ring that was handed in was changed")
		}
	}
}

func TestAnswersStay(t *testing.T) {
	for _, p := range pairs() {
		ring := roomyRing()
		b, s := slices.Clone(p.stripe), []byte(p.code)
		code, j, _ := ToBarcode(ring, b, p.version, p.codeBy)
		back, _ := ToStripe(ring, s, p.j, p.stripeBy)
		otherCode, _, _ := ToBarcode(ring, b, p.version, p.codeBy)
		otherBack, _ := ToStripe(ring, s, p.j, p.stripeBy)
		// What was handed in, and other answers, are overwritten, up to the end of their memory.
		for _, l := range [][]byte{b, s, otherCode[:cap(otherCode)], otherBack[:cap(otherBack)]} {
			for i := range l {
				l[i] = '!'
			}
		}
		for i := range ring {
			clear(ring[i].Secret[:cap(ring[i].Secret)])
			ring[i].Id = 0
		}
		for _, q := range pairs() {
			ToBarcode(keyRing(), q.stripe, 3, 41)
			ToStripe(keyRing(), []byte(q.code), api.Journey{}, 41)
		}
		if string(code) != p.code || j != p.j || !bytes.Equal(back, p.stripe) {
			t.Errorf("R2: what was told became %q, %+v and %v, want %q, %+v and %v", code, j, back, p.code, p.j, p.stripe)
		}
		wantBarcode(t, keyRing(), p.stripe, p.version, p.codeBy, []byte(p.code), p.j, api.OK)
		wantStripe(t, keyRing(), []byte(p.code), p.j, p.stripeBy, p.stripe, api.OK)
	}
}
