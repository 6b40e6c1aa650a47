package barcode

import (
	"bytes"
	"crypto/hmac"
	"crypto/sha256"
	"encoding/hex"
	"math"
	"math/big"
	"reflect"
	"slices"
	"strings"
	"testing"

	"gateline/api"
	"gateline/fields"
	"gateline/forty"
	"gateline/tlv"
)

const signs = "0123456789ABCDEFGHIJKLMNOPQRSTUVWXYZ $%*+-./:"

// keyRing is a ring of five keys; the secrets of all are others, and the days of most are over when tickets begin.
func keyRing() []api.Key {
	return []api.Key{
		{Id: 0, Secret: []byte("z"), From: 0, To: 0},
		{Id: 7, Secret: []byte("Jefe"), From: 0, To: 365},
		{Id: 40, Secret: bytes.Repeat([]byte("k"), 64), From: 99999, To: 99999},
		{Id: 41, Secret: []byte("another"), From: 0, To: 99999},
		{Id: 99, Secret: bytes.Repeat([]byte{11}, 20), From: 5, To: 6},
	}
}

// noRings is lists of keys that are no ring, though most of them have all keys of keyRing.
func noRings() [][]api.Key {
	with := func(change func(l []api.Key)) []api.Key {
		l := keyRing()
		change(l)
		return l
	}
	return [][]api.Key{
		with(func(l []api.Key) { l[0], l[1] = l[1], l[0] }),
		with(func(l []api.Key) { l[2].Id = 7 }),
		with(func(l []api.Key) { l[0].Id = -1 }),
		with(func(l []api.Key) { l[4].Id = 100 }),
		with(func(l []api.Key) { l[3].Secret = nil }),
		with(func(l []api.Key) { l[3].Secret = make([]byte, 65) }),
		with(func(l []api.Key) { l[3].From = -1 }),
		with(func(l []api.Key) { l[3].To = 100000 }),
		with(func(l []api.Key) { l[4].From = 7 }),
		append(keyRing(), keyRing()...),
		make([]api.Key, 1),
		{{Id: math.MinInt, Secret: []byte{1}}},
	}
}

func single() api.Read {
	return api.Read{T: api.Ticket{Serial: 1, Kind: 1, From: 10, To: 20, Class: 2, Days: 1, Uses: 1}, Key: 7, Version: 1}
}

func back() api.Read {
	return api.Read{T: api.Ticket{Serial: 1 << 40, Kind: 2, From: 39, To: 0, Class: 1, Card: 3, Seat: 999, Start: 99999, Days: 1, Uses: 2, Epoch: 9}, Key: 99, Version: 3}
}

func season() api.Read {
	return api.Read{T: api.Ticket{Serial: 300, Kind: 3, From: 2, To: 4, Class: 2, Card: 1, Start: 500, Days: 30, Epoch: 3}, Version: 2}
}

func carnet() api.Read {
	return api.Read{T: api.Ticket{Serial: 1234567, Kind: 4, From: 0, To: 15, Class: 1, Start: 99001, Days: 999, Uses: 20, Epoch: 1}, Key: 40, Version: 2}
}

// ofEachKind is what a barcode of each kind says.
func ofEachKind() []api.Read {
	return []api.Read{single(), back(), season(), carnet()}
}

// bodyOfEachKind is the same as the bytes of its fields, written out.
func bodyOfEachKind() [][]byte {
	return [][]byte{
		{1, 1, 1, 2, 1, 7, 3, 1, 1, 4, 1, 1, 5, 1, 10, 6, 1, 20, 7, 1, 2, 11, 1, 1},
		{1, 1, 3, 2, 1, 99, 3, 1, 2, 4, 6, 1, 0, 0, 0, 0, 0, 5, 1, 39, 7, 1, 1, 8, 1, 3, 9, 2, 3, 231, 10, 3, 1, 134, 159, 11, 1, 1, 13, 1, 9},
		{1, 1, 2, 3, 1, 3, 4, 2, 1, 44, 5, 1, 2, 6, 1, 4, 7, 1, 2, 8, 1, 1, 10, 2, 1, 244, 11, 1, 30, 13, 1, 3},
		{1, 1, 2, 2, 1, 40, 3, 1, 4, 4, 3, 18, 214, 135, 6, 1, 15, 7, 1, 1, 10, 3, 1, 130, 185, 11, 2, 3, 231, 12, 1, 20, 13, 1, 1},
	}
}

// textOfEachKind is the same as signs, with the tag that its key makes.
func textOfEachKind() []string {
	return []string{
		"W50X50%504H0Z50W50LS01C1660%*0SB0W50RJTXH8Y54-KG-PVE0TT10.K1YFN-$B0X5X5I5ZV+ZCK7DDYN",
		"W505H0+704H0LB07Y0000000500P60%*0*50Y50B619M0/B1U80Z4KW50:S1981AQFUWG4MG4.EPM0 XD8/CS%SR%DLX4C23-.2Y.4BWF6QCU4",
		"W50KB0Y50 M0U60LS0NB0Z50%*0PB0W50.B15B0RH1/Z3Y50+LJSBU/XVOE1S.NTJLGHO9*GLSJ05F$1P71A 4PCCU61PAC2",
		"W50JB0Q604H0%M0LH0J5R7Y0M+1W50/B1Q80VHNKB0I9T660:S1T70DXVC9EU8UMFQH*CM:30SULLST1KEL2$RS725%JGOXI-*UH1",
	}
}

// signsOf is bytes as Base45, told another way: a number's signs one by one, by divisions.
func signsOf(b []byte) []byte {
	out := []byte{}
	for pair := range slices.Chunk(b, 2) {
		n := int(pair[0])
		if len(pair) == 2 {
			n = n*256 + int(pair[1])
		}
		for range len(pair) + 1 {
			out = append(out, signs[n%45])
			n /= 45
		}
	}
	return out
}

// tagOf is a barcode's tag by the library's HMAC.
func tagOf(secret, body []byte) []byte {
	h := hmac.New(sha256.New, secret)
	h.Write([]byte{'B'})
	h.Write(body)
	return h.Sum(nil)
}

// bodyOf is the body that says r, told another way; each number is as few bytes as it has, and none if it is 0.
func bodyOf(r api.Read) []byte {
	numbers := []int{r.Version, r.Key, r.T.Kind, r.T.Serial, r.T.From, r.T.To, r.T.Class, r.T.Card, r.T.Seat, r.T.Start, r.T.Days, r.T.Uses, r.T.Epoch}
	body := []byte{}
	for i, n := range numbers {
		if n == 0 || i == 11 && r.T.Kind != 4 {
			continue
		}
		value := big.NewInt(int64(n)).Bytes()
		body = append(append(body, byte(i+1), byte(len(value))), value...)
	}
	return body
}

// codeOf is a barcode of that body, with the tag that secret makes.
func codeOf(secret, body []byte) []byte {
	return signsOf(slices.Concat(body, tagOf(secret, body)))
}

// secretOf is the secret of the key of that number; there is one.
func secretOf(ring []api.Key, id int) []byte {
	return ring[slices.IndexFunc(ring, func(k api.Key) bool { return k.Id == id })].Secret
}

// with is r with one number that is another.
func with(r api.Read, name string, n int) api.Read {
	*map[string]*int{
		"Serial": &r.T.Serial, "Kind": &r.T.Kind, "From": &r.T.From, "To": &r.T.To, "Class": &r.T.Class, "Card": &r.T.Card,
		"Seat": &r.T.Seat, "Start": &r.T.Start, "Days": &r.T.Days, "Uses": &r.T.Uses, "Epoch": &r.T.Epoch,
		"Left": &r.J.Left, "In": &r.J.In, "Key": &r.Key, "Version": &r.Version,
	}[name] = n
	return r
}

// noise is numbers without a pattern, always the same ones of one seed.
func noise(seed uint64) func(n int) int {
	x := seed*0x9e3779b97f4a7c15 + 1
	return func(n int) int {
		x ^= x << 13
		x ^= x >> 7
		x ^= x << 17
		return int(x>>1) % n
	}
}

// noiseBytes is n bytes without a pattern.
func noiseBytes(next func(n int) int, n int) []byte {
	b := make([]byte, n)
	for i := range b {
		b[i] = byte(next(256))
	}
	return b
}

// noiseRing is some ring of a few keys.
func noiseRing(next func(n int) int) []api.Key {
	l := []api.Key{}
	for id := next(20); id < 100; id += 1 + next(30) {
		from := next(100000)
		l = append(l, api.Key{Id: id, Secret: noiseBytes(next, 1+next(64)), From: from, To: from + next(100000-from)})
	}
	return l
}

// noiseRead is what some barcode says, by a key of that ring.
func noiseRead(next func(n int) int, ring []api.Key) api.Read {
	r := api.Read{T: api.Ticket{Serial: 1 + next(1<<(1+next(40))), Kind: 1 + next(4), Class: 1 + next(2), Start: next(1 << next(17)), Epoch: next(10)}, Key: ring[next(len(ring))].Id, Version: 1 + next(3)}
	r.T.Days = 1 + next(min(999, 100000-r.T.Start))
	r.T.From = next(40)
	r.T.To = (r.T.From + 1 + next(39)) % 40
	switch r.T.Kind {
	case 1, 2:
		r.T.Uses = r.T.Kind
	case 3:
		r.T.From = 1 + next(6)
		r.T.To = r.T.From + next(7-r.T.From)
	case 4:
		r.T.Uses = 2 + next(19)
	}
	if r.Version > 1 {
		r.T.Card = next(4)
	}
	if r.Version > 2 {
		r.T.Seat = next(1000)
	}
	return r
}

func wantEncode(t *testing.T, ring []api.Key, r api.Read, want []byte, code api.Errno) {
	t.Helper()
	got, e := Encode(ring, r)
	if e != code || !bytes.Equal(got, want) || code != api.OK && got != nil {
		t.Errorf("P19.1: Encode of %+v = %q, %d, want %q, %d", r, got, e, want, code)
	}
}

func wantVersion(t *testing.T, s []byte, want int, code api.Errno) {
	t.Helper()
	if got, e := Version(s); got != want || e != code {
		t.Errorf("P19.2: Version of %q = %d, %d, want %d, %d", s, got, e, want, code)
	}
}

func wantDecode(t *testing.T, ring []api.Key, s []byte, want api.Read, code api.Errno) {
	t.Helper()
	if got, e := Decode(ring, s); got != want || e != code {
		t.Errorf("P19.3: Decode of %q = %+v, %d, want %+v, %d", s, got, e, want, code)
	}
}

// decodeAsked is what P19.3 asks of s by the exported calls of the layers below, for a list of keys that is a ring.
func decodeAsked(ring []api.Key, s []byte) (api.Read, api.Errno) {
	all, e := forty.Get(s)
	if e != api.OK {
		return api.Read{}, e
	}
	if len(all) < 32 {
		return api.Read{}, api.ErrLength
	}
	body, tag := all[:len(all)-32], all[len(all)-32:]
	l, e := tlv.Get(body)
	if e != api.OK {
		return api.Read{}, e
	}
	r, e := fields.Get(l)
	if e != api.OK {
		return api.Read{}, e
	}
	for _, k := range ring {
		if k.Id == r.Key {
			if !bytes.Equal(tagOf(k.Secret, body), tag) {
				return api.Read{}, api.ErrTag
			}
			return r, api.OK
		}
	}
	return api.Read{}, api.ErrKey
}

// versionAsked is what P19.2 asks of s, likewise.
func versionAsked(s []byte) (int, api.Errno) {
	all, e := forty.Get(s)
	if e != api.OK {
		return 0, e
	}
	if len(all) < 32 {
		return 0, api.ErrLength
	}
	body := all[:len(all)-32]
	if _, e := tlv.Get(body); e != api.OK {
		return 0, e
	}
	if len(body) < 3 || body[0] != 1 || body[1] != 1 || body[2] < 1 || body[2] > 3 {
		return 0, api.ErrVersion
	}
	return int(body[2]), api.OK
}

// wantAsAsked tries Decode and Version of s against what is asked, and tells the error of Decode.
func wantAsAsked(t *testing.T, ring []api.Key, s []byte) api.Errno {
	t.Helper()
	want, code := decodeAsked(ring, s)
	wantDecode(t, ring, s, want, code)
	version, e := versionAsked(s)
	wantVersion(t, s, version, e)
	return code
}

// goesRound tries T1 and P19.4 at s: what it says is encoded as s and of Version's version, and what is refused says nothing.
func goesRound(t *testing.T, ring []api.Key, s []byte) {
	t.Helper()
	r, e := Decode(ring, s)
	if e != api.OK {
		if r != (api.Read{}) {
			t.Errorf("R1: Decode of %q = %+v, %d", s, r, e)
		}
		return
	}
	if again, f := Encode(ring, r); f != api.OK || !bytes.Equal(again, s) {
		t.Errorf("P19.4: %q was decoded as %+v, and encoded as %q, %d", s, r, again, f)
	}
	if version, f := Version(s); version != r.Version || f != api.OK {
		t.Errorf("P19.4: %q was decoded as %+v, and its version is %d, %d", s, r, version, f)
	}
}

func TestTagExamples(t *testing.T) {
	for _, x := range []struct {
		secret string
		b      []byte
		want   string
	}{
		{"Jefe", nil, "f718380a02e7b2ba58c477163c374a9db2537dee3c6ef0e4d3e736de64f79b36"},
		{"", nil, "ec83276d68c2c202258205e0658b219818e28dcb15d2bcabb75745a34e61efd5"},
		{"Jefe", []byte{1, 1, 1}, "1cf00e720132d0779d57ffca95d7df21118793ad995cf67a7d463ee623e6eac4"},
		{strings.Repeat("x", 65), []byte{1, 1, 1}, "7aa548fc5918299d1f0872e4a6985ef292e20afc2b3ec7deeaf75f130d900d66"},
	} {
		if got := Tag([]byte(x.secret), x.b); hex.EncodeToString(got[:]) != x.want {
			t.Errorf("P19.1: Tag(%q, %v) = %x, want %s", x.secret, x.b, got, x.want)
		}
	}
}

func TestTag(t *testing.T) {
	next := noise(1)
	for n := range 140 {
		for m := range 70 {
			secret, b := noiseBytes(next, n), noiseBytes(next, m)
			if got := Tag(secret, b); !bytes.Equal(got[:], tagOf(secret, b)) {
				t.Fatalf("P19.1: Tag(%v, %v) = %v, want %v", secret, b, got, tagOf(secret, b))
			}
		}
	}
	// The chapter bounds neither secrets nor bytes.
	for _, n := range []int{0, 1, 64, 65, 1000, 70000} {
		secret, b := noiseBytes(next, n), noiseBytes(next, n)
		if got := Tag(secret, b); !bytes.Equal(got[:], tagOf(secret, b)) {
			t.Errorf("P19.1: Tag of %d bytes = %v, want %v", n, got, tagOf(secret, b))
		}
	}
}

func TestExamples(t *testing.T) {
	for i, r := range ofEachKind() {
		s, body := []byte(textOfEachKind()[i]), bodyOfEachKind()[i]
		if !bytes.Equal(body, bodyOf(r)) || !bytes.Equal(s, codeOf(secretOf(keyRing(), r.Key), body)) {
			t.Fatalf("the examples of kind %d are not the same", i+1)
		}
		wantEncode(t, keyRing(), r, s, api.OK)
		wantDecode(t, keyRing(), s, r, api.OK)
		wantVersion(t, s, r.Version, api.OK)
	}
}

func TestEncodeOfNoRing(t *testing.T) {
	for _, ring := range noRings() {
		for _, r := range ofEachKind() {
			wantEncode(t, ring, r, nil, api.ErrArg)
			// It is told ahead of what has no room, and of a key that there is not.
			wantEncode(t, ring, with(with(r, "Seat", 1), "Version", 1), nil, api.ErrArg)
			wantEncode(t, ring, with(r, "Key", 50), nil, api.ErrArg)
		}
	}
}

func TestEncodeOfWrongReads(t *testing.T) {
	for _, ring := range [][]api.Key{nil, {}, keyRing()} {
		for _, r := range ofEachKind() {
			for _, name := range []string{"Serial", "Kind", "From", "To", "Class", "Card", "Seat", "Start", "Days", "Uses", "Epoch", "Left", "In", "Key", "Version"} {
				for _, n := range []int{math.MinInt, -1 << 32, -1, 1<<40 + 1, 1 << 62, math.MaxInt} {
					wantEncode(t, ring, with(r, name, n), nil, api.ErrArg)
				}
			}
			for name, n := range map[string]int{"Serial": 0, "Kind": 5, "From": 40, "To": 40, "Class": 3, "Card": 4, "Seat": 1000, "Start": 100000, "Days": 1000, "Uses": 21, "Epoch": 10, "Left": 1, "In": 1, "Key": 100} {
				wantEncode(t, ring, with(r, name, n), nil, api.ErrArg)
				wantEncode(t, ring, with(with(with(r, "Card", 1), "Version", 1), name, n), nil, api.ErrArg)
			}
			wantEncode(t, ring, with(r, "Version", 0), nil, api.ErrArg)
			wantEncode(t, ring, with(r, "Version", 4), nil, api.ErrArg)
			// What the version does not tell comes ahead of a key that there is not.
			for _, key := range []int{r.Key, 1, 50, 98} {
				x := with(r, "Key", key)
				wantEncode(t, ring, with(with(x, "Card", 1), "Version", 1), nil, api.ErrFit)
				wantEncode(t, ring, with(with(x, "Seat", 1), "Version", 1), nil, api.ErrFit)
				wantEncode(t, ring, with(with(x, "Seat", 999), "Version", 2), nil, api.ErrFit)
			}
		}
		wantEncode(t, ring, api.Read{}, nil, api.ErrArg)
	}
}

func TestKeys(t *testing.T) {
	for _, ring := range [][]api.Key{nil, {}, keyRing(), keyRing()[1:], keyRing()[:2], keyRing()[2:3]} {
		for _, r := range ofEachKind() {
			for id := range 100 {
				x := with(r, "Key", id)
				if !slices.ContainsFunc(ring, func(k api.Key) bool { return k.Id == id }) {
					wantEncode(t, ring, x, nil, api.ErrKey)
					wantDecode(t, ring, codeOf([]byte("Jefe"), bodyOf(x)), api.Read{}, api.ErrKey)
					// Whatever its tag is.
					wantDecode(t, ring, signsOf(append(bodyOf(x), make([]byte, 32)...)), api.Read{}, api.ErrKey)
					continue
				}
				s := codeOf(secretOf(ring, id), bodyOf(x))
				wantEncode(t, ring, x, s, api.OK)
				wantDecode(t, ring, s, x, api.OK)
			}
		}
	}
}

func TestDecodeOfNoRing(t *testing.T) {
	for _, ring := range noRings() {
		for i := range ofEachKind() {
			s := []byte(textOfEachKind()[i])
			// It is told ahead of all that is wrong with the signs, their bytes and their fields.
			for _, s := range [][]byte{s, s[1:], s[:1], s[:9], []byte("GGW"), []byte("abc"), nil, signsOf(make([]byte, 40)), signsOf(append([]byte{200, 0}, make([]byte, 32)...))} {
				wantDecode(t, ring, s, api.Read{}, api.ErrArg)
			}
		}
	}
}

// wantNeither tries an error that Decode, by whatever ring, and Version tell alike.
func wantNeither(t *testing.T, s []byte, code api.Errno) {
	t.Helper()
	for _, ring := range [][]api.Key{nil, keyRing()} {
		wantDecode(t, ring, s, api.Read{}, code)
	}
	wantVersion(t, s, 0, code)
}

func TestNoBase45(t *testing.T) {
	for _, text := range textOfEachKind() {
		s := []byte(text)
		// With one sign more than a multiple of three, whatever these are.
		wantNeither(t, s[:len(s)/3*3-2], api.ErrLength)
		wantNeither(t, bytes.Repeat([]byte{'!'}, len(s)/3*3+1), api.ErrLength)
		wantNeither(t, s[:1], api.ErrLength)
		for i := range s {
			for _, c := range []byte{0, '!', '"', '#', '&', '\'', ',', ';', '@', 'a', 'z', '_', 127, 128, 255} {
				wrong := slices.Clone(s)
				wrong[i] = c
				wantNeither(t, wrong, api.ErrDigit)
			}
		}
		for i := 0; i+3 <= len(s); i += 3 {
			over := slices.Clone(s)
			copy(over[i:], "GGW")
			wantNeither(t, over, api.ErrOver)
		}
	}
	// Two signs that are left over, of more than 255.
	odd := signsOf(append(bodyOfEachKind()[3], make([]byte, 32)...))
	for _, end := range []string{"V5", "::", "U6"} {
		wantNeither(t, append(slices.Clone(odd[:len(odd)-2]), end...), api.ErrOver)
	}
}

func TestFewBytes(t *testing.T) {
	next := noise(2)
	wantNeither(t, nil, api.ErrLength)
	wantNeither(t, []byte{}, api.ErrLength)
	for n := range 32 {
		wantNeither(t, signsOf(make([]byte, n)), api.ErrLength)
		wantNeither(t, signsOf(bytes.Repeat([]byte{1}, n)), api.ErrLength)
		for range 20 {
			wantNeither(t, signsOf(noiseBytes(next, n)), api.ErrLength)
		}
	}
	// 32 bytes are a tag alone, of no fields; one more is no field.
	for range 20 {
		wantNeither(t, signsOf(noiseBytes(next, 32)), api.ErrVersion)
		wantNeither(t, signsOf(noiseBytes(next, 33)), api.ErrLength)
	}
	wantNeither(t, codeOf([]byte("Jefe"), nil), api.ErrVersion)
	wantNeither(t, codeOf([]byte("Jefe"), []byte{1}), api.ErrLength)
}

func TestNoFields(t *testing.T) {
	for _, x := range []struct {
		body []byte
		want api.Errno
	}{
		{[]byte{0}, api.ErrLength}, {[]byte{255}, api.ErrLength}, {[]byte{1, 1}, api.ErrLength}, {[]byte{1, 2, 1}, api.ErrLength},
		{[]byte{0, 0}, api.ErrOrder}, {[]byte{0, 9}, api.ErrOrder}, {[]byte{1, 1, 1, 1, 1, 1}, api.ErrOrder}, {[]byte{1, 1, 1, 0, 5}, api.ErrOrder},
		{[]byte{1, 1, 1, 3, 1, 1, 2, 1, 7}, api.ErrOrder}, {[]byte{1, 1, 1, 3}, api.ErrLength}, {[]byte{1, 1, 1, 3, 2, 1}, api.ErrLength},
		{[]byte{1, 1, 1, 3, 255, 1}, api.ErrLength},
		// Fields are parted ahead of what they say, be it the version, or a field that must be known.
		{[]byte{1, 1, 9, 2}, api.ErrLength}, {[]byte{2, 0, 1, 1, 1}, api.ErrOrder}, {[]byte{200, 0, 14, 0}, api.ErrOrder}, {[]byte{128, 0, 1}, api.ErrLength},
		{append(bodyOfEachKind()[0], 11, 1, 1), api.ErrOrder}, {append(bodyOfEachKind()[0], 200), api.ErrLength}, {bodyOfEachKind()[0][:23], api.ErrLength},
	} {
		wantNeither(t, codeOf([]byte("Jefe"), x.body), x.want)
		wantNeither(t, signsOf(append(slices.Clone(x.body), make([]byte, 32)...)), x.want)
	}
}

// TestFieldsThatSayNothing has fields that are fields, but no ticket: Version tells of most what their first one says.
func TestFieldsThatSayNothing(t *testing.T) {
	whole := bodyOfEachKind()[0]
	for _, x := range []struct {
		body    []byte
		want    api.Errno
		version int
	}{
		{whole[3:], api.ErrVersion, 0}, {slices.Concat([]byte{1, 1, 4}, whole[3:]), api.ErrVersion, 0}, {slices.Concat([]byte{1, 1, 255}, whole[3:]), api.ErrVersion, 0},
		{slices.Concat([]byte{1, 1, 0}, whole[3:]), api.ErrLength, 0}, {slices.Concat([]byte{1, 0}, whole[3:]), api.ErrLength, 0},
		{slices.Concat([]byte{1, 2, 0, 1}, whole[3:]), api.ErrLength, 0}, {slices.Concat([]byte{1, 2, 1, 0}, whole[3:]), api.ErrVersion, 0},
		{slices.Concat([]byte{1, 2, 1, 1}, whole[3:]), api.ErrVersion, 0}, {slices.Concat([]byte{1, 8}, make([]byte, 8), whole[3:]), api.ErrLength, 0},
		{append(slices.Clone(whole), 14, 0), api.ErrUnknown, 1}, {append(slices.Clone(whole), 127, 1, 1), api.ErrUnknown, 1}, {append(slices.Clone(whole), 128, 1, 1), api.ErrMust, 1},
		{append(slices.Clone(whole), 255, 0), api.ErrMust, 1}, {append(slices.Clone(whole), 13, 0), api.ErrLength, 1}, {append(slices.Clone(whole), 13, 1, 0), api.ErrLength, 1},
		{append(slices.Clone(whole), 13, 1, 10), api.ErrField, 1}, {append(slices.Clone(whole), 12, 1, 1), api.ErrField, 1}, {whole[:21], api.ErrField, 1}, {whole[:3], api.ErrField, 1},
		{slices.Concat(whole[:21], []byte{8, 1, 1}, whole[21:]), api.ErrVersion, 1}, {slices.Concat([]byte{1, 1, 2}, whole[3:21], []byte{9, 1, 1}, whole[21:]), api.ErrVersion, 2},
		{slices.Concat(whole[:3], []byte{2, 1, 100}, whole[6:]), api.ErrField, 1}, {[]byte{1, 1, 3, 77, 0}, api.ErrUnknown, 3}, {[]byte{1, 1, 2, 200, 3, 1, 2, 3}, api.ErrMust, 2},
		{[]byte{14, 0}, api.ErrUnknown, 0}, {[]byte{128, 0}, api.ErrMust, 0}, {[]byte{2, 1, 1}, api.ErrVersion, 0},
		// Of a key that there is not, too.
		{slices.Concat(whole[:3], []byte{2, 1, 50}, whole[6:21]), api.ErrField, 1}, {slices.Concat(whole[:3], []byte{2, 1, 50}, whole[6:], []byte{13, 1, 10}), api.ErrField, 1},
	} {
		for _, s := range [][]byte{codeOf([]byte("Jefe"), x.body), signsOf(append(slices.Clone(x.body), make([]byte, 32)...))} {
			for _, ring := range [][]api.Key{nil, keyRing()} {
				wantDecode(t, ring, s, api.Read{}, x.want)
			}
			code := api.OK
			if x.version == 0 {
				code = api.ErrVersion
			}
			wantVersion(t, s, x.version, code)
		}
	}
}

// TestVersions has each tag, each length and each byte of a first field, whatever the tag and the fields behind it are.
func TestVersions(t *testing.T) {
	for _, behind := range [][]byte{nil, {200, 3, 0, 0, 0}, {255, 0}} {
		for tag := 1; tag < 200; tag++ {
			for n := range 4 {
				for _, b := range []byte{0, 1, 2, 3, 4, 5, 128, 255} {
					body := slices.Concat([]byte{byte(tag), byte(n)}, bytes.Repeat([]byte{b}, n), behind)
					want, code := 0, api.ErrVersion
					if tag == 1 && n == 1 && b >= 1 && b <= 3 {
						want, code = int(b), api.OK
					}
					wantVersion(t, signsOf(append(body, make([]byte, 32)...)), want, code)
				}
			}
		}
	}
	for b := range 256 {
		want, code := 0, api.ErrVersion
		if b >= 1 && b <= 3 {
			want, code = b, api.OK
		}
		for _, tag := range [][]byte{make([]byte, 32), bytes.Repeat([]byte{255}, 32), tagOf([]byte("Jefe"), []byte{1, 1, byte(b)})} {
			wantVersion(t, signsOf(append([]byte{1, 1, byte(b)}, tag...)), want, code)
		}
	}
	// Of a barcode by whatever key, and with whatever tag.
	for i, r := range ofEachKind() {
		for id := range 256 {
			body := bodyOf(with(r, "Key", id))
			wantVersion(t, codeOf([]byte{byte(id)}, body), r.Version, api.OK)
		}
		wantVersion(t, signsOf(append(bodyOfEachKind()[i], bytes.Repeat([]byte{9}, 32)...)), r.Version, api.OK)
	}
}

// TestOtherBytes has each byte of barcodes changed to some others, and each bit of it.
func TestOtherBytes(t *testing.T) {
	next := noise(3)
	reads := ofEachKind()
	for range 30 {
		reads = append(reads, noiseRead(next, keyRing()))
	}
	for _, r := range reads {
		body := bodyOf(r)
		whole := append(body, tagOf(secretOf(keyRing(), r.Key), body)...)
		for i := range whole {
			for _, x := range []byte{1, 2, 4, 8, 16, 32, 64, 128, byte(1 + next(255)), byte(1 + next(255))} {
				other := slices.Clone(whole)
				other[i] ^= x
				e := wantAsAsked(t, keyRing(), signsOf(other))
				if e == api.OK {
					t.Errorf("P19.3: byte %d of %v is changed by %d, and it is decoded", i, whole, x)
				}
				if i >= len(whole)-32 && e != api.ErrTag {
					t.Errorf("P19.3: byte %d of %v is changed by %d: %d, want %d", i, whole, x, e, api.ErrTag)
				}
			}
		}
	}
}

// TestOtherSigns has each sign of barcodes changed to each other one, of which there are three for two bytes, so that none may be left out.
func TestOtherSigns(t *testing.T) {
	for _, text := range textOfEachKind() {
		for i := range text {
			for c := range len(signs) {
				s := []byte(text)
				s[i] = signs[c]
				if e := wantAsAsked(t, keyRing(), s); e == api.OK && string(s) != text {
					t.Errorf("P19.4: sign %d of %q is changed, and it is decoded", i, text)
				}
			}
		}
		for _, s := range []string{text[:len(text)-3], text[:len(text)-2], text + "000", text + "00", text[3:], text[:3] + text, " " + text, text + "\n", strings.ToLower(text)} {
			if e := wantAsAsked(t, keyRing(), []byte(s)); e == api.OK {
				t.Errorf("P19.4: %q is decoded", s)
			}
		}
	}
}

func TestOtherTags(t *testing.T) {
	ring := keyRing()
	for i, r := range ofEachKind() {
		body := bodyOfEachKind()[i]
		secret := secretOf(ring, r.Key)
		tag := tagOf(secret, body)
		marked := func(mark ...byte) []byte {
			h := hmac.New(sha256.New, secret)
			h.Write(mark)
			h.Write(body)
			return h.Sum(nil)
		}
		turned := slices.Clone(tag)
		slices.Reverse(turned)
		wrong := [][]byte{
			make([]byte, 32), bytes.Repeat([]byte{255}, 32), marked(), marked('S'), marked('b'), marked('B', 'B'), turned,
			append(slices.Clone(tag[1:]), tag[0]), append(slices.Clone(tag[:4]), make([]byte, 28)...), append(slices.Clone(tag[:31]), tag[31]^1), append([]byte{tag[0] ^ 128}, tag[1:]...),
			tagOf(secret, body[1:]), tagOf(secret, append(slices.Clone(body), 0)), tagOf(nil, body), tagOf(secret[:len(secret)-1], body), tagOf(append(slices.Clone(secret), 1), body),
		}
		for _, k := range ring {
			if k.Id != r.Key {
				wrong = append(wrong, tagOf(k.Secret, body))
			}
		}
		for _, other := range wrong {
			s := signsOf(slices.Concat(body, other))
			wantDecode(t, ring, s, api.Read{}, api.ErrTag)
			wantVersion(t, s, r.Version, api.OK)
		}
	}
}

// TestOtherRings tells what of a ring plays a part: the secret of the key of that number, and nothing else.
func TestOtherRings(t *testing.T) {
	for i, r := range ofEachKind() {
		s := []byte(textOfEachKind()[i])
		place := slices.IndexFunc(keyRing(), func(k api.Key) bool { return k.Id == r.Key })
		secret := keyRing()[place].Secret
		alone := []api.Key{{Id: r.Key, Secret: secret, From: 0, To: 99999}}
		days, others := keyRing(), keyRing()
		for j := range days {
			days[j].From, days[j].To = 17, 18
			if j != place {
				others[j].Secret = []byte("others")
			}
		}
		for _, ring := range [][]api.Key{alone, days, others} {
			wantDecode(t, ring, s, r, api.OK)
			wantEncode(t, ring, r, s, api.OK)
		}
		flipped := slices.Clone(secret)
		flipped[len(secret)-1] ^= 1
		for _, other := range [][]byte{{1}, flipped, append([]byte{1}, secret[1:]...), []byte("other")} {
			ring := keyRing()
			ring[place].Secret = other
			wantDecode(t, ring, s, api.Read{}, api.ErrTag)
			wantEncode(t, ring, r, codeOf(other, bodyOf(r)), api.OK)
		}
		wantDecode(t, slices.Delete(keyRing(), place, place+1), s, api.Read{}, api.ErrKey)
	}
	// A key's secret that ends in bytes 0 makes the tags of the one without them (chapter 3).
	ring := keyRing()
	ring[1].Secret = append(ring[1].Secret, 0, 0)
	wantDecode(t, ring, []byte(textOfEachKind()[0]), single(), api.OK)
}

func TestEncodeAndDecode(t *testing.T) {
	next := noise(4)
	for range 2000 {
		ring := noiseRing(next)
		for range 5 {
			r := noiseRead(next, ring)
			s, e := Encode(ring, r)
			if e != api.OK || !bytes.Equal(s, codeOf(secretOf(ring, r.Key), bodyOf(r))) {
				t.Fatalf("P19.1: Encode of %+v = %q, %d", r, s, e)
			}
			if got, f := Decode(ring, s); got != r || f != api.OK {
				t.Fatalf("P19.4: %+v was encoded as %q, and decoded as %+v, %d", r, s, got, f)
			}
			goesRound(t, ring, s)
		}
	}
}

// noiseChanged is l with a few of its fields left out, changed or added, without a pattern.
func noiseChanged(next func(n int) int, l []api.Field) []api.Field {
	values := map[int][]byte{}
	for _, f := range l {
		values[f.Tag] = f.Value
	}
	for range next(3) {
		tag := 1 + next(13)
		if next(20) == 0 {
			tag = 1 + next(255)
		}
		switch next(3) {
		case 0:
			delete(values, tag)
		case 1:
			values[tag] = []byte{byte(1 + next(4))}
		case 2:
			values[tag] = noiseBytes(next, next(9))
		}
	}
	var out []api.Field
	for tag := range 256 {
		if value, ok := values[tag]; ok {
			out = append(out, api.Field{Tag: tag, Value: value})
		}
	}
	return out
}

// TestDecodeAndEncode has fields with right tags, some of which say nothing that is right, and both directions.
func TestDecodeAndEncode(t *testing.T) {
	next := noise(5)
	counts := map[api.Errno]int{}
	for range 20000 {
		ring := noiseRing(next)
		r := noiseRead(next, ring)
		l, _ := fields.Put(r)
		body, _ := tlv.Put(noiseChanged(next, l))
		if next(10) == 0 {
			body[next(len(body))] = byte(next(256))
		}
		s := codeOf(secretOf(ring, r.Key), body)
		counts[wantAsAsked(t, ring, s)]++
		goesRound(t, ring, s)
	}
	for _, e := range []api.Errno{api.OK, api.ErrField, api.ErrKey, api.ErrTag, api.ErrVersion, api.ErrOrder, api.ErrLength, api.ErrUnknown, api.ErrMust} {
		if counts[e] < 20 {
			t.Errorf("of those barcodes %d are told %d: that tries too little", counts[e], e)
		}
	}
}

func TestAnyBytes(t *testing.T) {
	next := noise(6)
	ring := keyRing()
	for range 10000 {
		// Bytes of any value, signs alone, bytes as Base45, and fields of any bytes.
		b := noiseBytes(next, next(130))
		wantAsAsked(t, ring, b)
		wantAsAsked(t, ring, signsOf(b))
		for i := range b {
			b[i] = signs[next(len(signs))]
		}
		wantAsAsked(t, ring, b)
		body := []byte{1, 1, byte(next(5))}
		for tag := 2 + next(3); tag < 14; tag += 1 + next(2) {
			n := 1 + next(2)
			body = slices.Concat(body, []byte{byte(tag), byte(n)}, noiseBytes(next, n))
		}
		wantAsAsked(t, ring, codeOf(ring[next(len(ring))].Secret, body))
	}
	// Far more than any barcode has: a body of the most bytes that fields can be, and one that goes on behind it.
	long := []byte{1, 1, 2}
	for tag := 2; tag < 256; tag++ {
		long = slices.Concat(long, []byte{byte(tag), 255}, noiseBytes(next, 255))
	}
	wantAsAsked(t, ring, codeOf([]byte("Jefe"), long))
	wantVersion(t, codeOf([]byte("Jefe"), long), 2, api.OK)
	wantNeither(t, signsOf(make([]byte, 70000)), api.ErrOrder)
	wantNeither(t, codeOf([]byte("Jefe"), append(long, long...)), api.ErrOrder)
}

// copied is l in other memory, down to the secrets, up to their capacity.
func copied(l []api.Key) []api.Key {
	out := slices.Clone(l)
	for i := range out {
		secret := out[i].Secret
		out[i].Secret = slices.Clone(secret[:cap(secret)])[:len(secret)]
	}
	return out
}

func TestArgumentsStay(t *testing.T) {
	for i, r := range ofEachKind() {
		ring := keyRing()
		for j := range ring {
			ring[j].Secret = append(make([]byte, 0, 100), ring[j].Secret...)
		}
		before := copied(ring)
		whole := []byte(textOfEachKind()[i] + "AND MORE BEHIND IT")
		end := len(textOfEachKind()[i])
		body := bodyOf(r)
		room := append(slices.Clone(body), bytes.Repeat([]byte{77}, 50)...)
		for _, n := range []int{end, end - 1, end - 3, 5, 0} {
			Decode(ring, whole[:n])
			Decode(noRings()[0], whole[:n])
			Version(whole[:n])
		}
		Encode(ring, r)
		Encode(ring, with(with(r, "Seat", 1), "Version", 1))
		Tag(ring[1].Secret, room[:len(body)])
		if string(whole) != textOfEachKind()[i]+"AND MORE BEHIND IT" {
			t.Errorf("R2: a barcode that was handed in was changed")
		}
		if !bytes.Equal(room, append(slices.Clone(body), bytes.Repeat([]byte{77}, 50)...)) {
			t.Errorf("R2: bytes that were handed in were changed")
		}
		for j, k := range ring {
			if !reflect.DeepEqual(k, before[j]) || !bytes.Equal(k.Secret[:cap(k.Secret)], before[j].Secret[:len(before[j].Secret)][:cap(k.Secret)]) {
				t.Errorf("R2: a ring that was handed in was changed")
			}
		}
	}
}

func TestAnswersStay(t *testing.T) {
	for i, r := range ofEachKind() {
		ring := keyRing()
		want := textOfEachKind()[i]
		s, _ := Encode(ring, r)
		other, _ := Encode(ring, r)
		handed := []byte(want)
		got, _ := Decode(ring, handed)
		// What was handed in, and another answer, are overwritten, up to the end of their memory.
		for _, b := range [][]byte{other[:cap(other)], handed} {
			for j := range b {
				b[j] = '!'
			}
		}
		for j := range ring {
			for n := range ring[j].Secret {
				ring[j].Secret[n] ^= 255
			}
			ring[j].Id = 0
		}
		for _, x := range ofEachKind() {
			Encode(keyRing(), x)
		}
		if string(s) != want {
			t.Errorf("R2: a barcode that was told became %q, want %q", s, want)
		}
		if got != r {
			t.Errorf("R2: what was told became %+v, want %+v", got, r)
		}
		wantEncode(t, keyRing(), r, []byte(want), api.OK)
	}
}
