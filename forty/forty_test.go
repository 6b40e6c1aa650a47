package forty

import (
	"bytes"
	"slices"
	"strings"
	"testing"

	"gateline/api"
)

// allSigns is the signs in their order, one by one, apart from the program's own list.
func allSigns() []byte {
	l := []byte{}
	for c := byte('0'); c <= '9'; c++ {
		l = append(l, c)
	}
	for c := byte('A'); c <= 'Z'; c++ {
		l = append(l, c)
	}
	return append(l, ' ', '$', '%', '*', '+', '-', '.', '/', ':')
}

// noSigns is all bytes that are no sign.
func noSigns() []byte {
	l := []byte{}
	for c := range 256 {
		if !bytes.Contains(allSigns(), []byte{byte(c)}) {
			l = append(l, byte(c))
		}
	}
	return l
}

// three is the number n as three signs.
func three(n int) string {
	l := allSigns()
	return string([]byte{l[n%45], l[n/45%45], l[n/2025]})
}

// two is the number n as two signs.
func two(n int) string {
	l := allSigns()
	return string([]byte{l[n%45], l[n/45]})
}

// signsOf is the signs of b, by the document's words.
func signsOf(b []byte) string {
	var s strings.Builder
	for ; len(b) > 1; b = b[2:] {
		s.WriteString(three(256*int(b[0]) + int(b[1])))
	}
	if len(b) == 1 {
		s.WriteString(two(int(b[0])))
	}
	return s.String()
}

// bytesOf is what Get is to answer of s, by the document's words.
func bytesOf(s []byte) ([]byte, api.Errno) {
	if len(s)%3 == 1 {
		return nil, api.ErrLength
	}
	b := []byte{}
	for len(s) > 0 {
		group := s[:min(3, len(s))]
		s = s[len(group):]
		n, weight := 0, 1
		for _, c := range group {
			v := bytes.IndexByte(allSigns(), c)
			if v < 0 {
				return nil, api.ErrDigit
			}
			n += weight * v
			weight *= 45
		}
		switch {
		case len(group) == 3 && n > 65535, len(group) == 2 && n > 255:
			return nil, api.ErrOver
		case len(group) == 3:
			b = append(b, byte(n>>8), byte(n))
		default:
			b = append(b, byte(n))
		}
	}
	return b, api.OK
}

// noise is numbers without a pattern, always the same ones of one seed.
func noise(seed uint64) func() int {
	x := seed*0x9e3779b97f4a7c15 + 1
	return func() int {
		x ^= x << 13
		x ^= x >> 7
		x ^= x << 17
		return int(x >> 1)
	}
}

// noiseBytes is count bytes without a pattern.
func noiseBytes(count int, seed uint64) []byte {
	next := noise(seed)
	b := make([]byte, count)
	for i := range b {
		b[i] = byte(next() >> 20)
	}
	return b
}

func wantPut(t *testing.T, b []byte, want string) {
	t.Helper()
	if got := Put(b); string(got) != want {
		t.Errorf("P16.1: Put(%v) = %q, want %q", b, got, want)
	}
}

func wantGet(t *testing.T, s string, want []byte) {
	t.Helper()
	got, e := Get([]byte(s))
	if e != api.OK || !bytes.Equal(got, want) {
		t.Errorf("P16.2: Get(%q) = %v, %d, want %v, 0", s, got, e, want)
	}
}

func wantNone(t *testing.T, s string, code api.Errno) {
	t.Helper()
	got, e := Get([]byte(s))
	if e != code || got != nil {
		t.Errorf("P16.2, R1: Get(%q) = %v, %d, want nil, %d", s, got, e, code)
	}
}

// wantAsModel holds Get of s against bytesOf.
func wantAsModel(t *testing.T, s []byte) {
	t.Helper()
	b, e := bytesOf(s)
	if e != api.OK {
		wantNone(t, string(s), e)
		return
	}
	wantGet(t, string(s), b)
}

// examples is the document's worked answers, and more that are reckoned by hand.
func examples() map[string][]byte {
	return map[string][]byte{
		"":            {},
		"BB8":         []byte("AB"),
		"%69 VD92EX0": []byte("Hello!!"),
		"QED8WEX0":    []byte("ietf!"),
		"00":          {0},
		"10":          {1},
		":0":          {44},
		"01":          {45},
		"U5":          {255},
		"000":         {0, 0},
		"100":         {0, 1},
		"V50":         {1, 0},
		"U50":         {0, 255},
		":00":         {0, 44},
		"010":         {0, 45},
		"::0":         {7, 232},
		"001":         {7, 233},
		"UAW":         {255, 0},
		"FGW":         {255, 255},
		"FGWU5":       {255, 255, 255},
		"000000":      {0, 0, 0, 0},
		"00000":       {0, 0, 0},
		"FGWFGW":      {255, 255, 255, 255},
	}
}

func TestPutExamples(t *testing.T) {
	for s, b := range examples() {
		wantPut(t, b, s)
	}
	wantPut(t, nil, "")
}

func TestGetExamples(t *testing.T) {
	for s, b := range examples() {
		wantGet(t, s, b)
	}
}

func TestSignsInOrder(t *testing.T) {
	l := allSigns()
	if len(l) != 45 {
		t.Fatalf("P16.1: %d signs", len(l))
	}
	for v, c := range l {
		wantPut(t, []byte{byte(v)}, string([]byte{c, '0'}))
		wantGet(t, string([]byte{c, '0'}), []byte{byte(v)})
	}
}

func TestEachByte(t *testing.T) {
	for v := range 256 {
		wantPut(t, []byte{byte(v)}, two(v))
		wantGet(t, two(v), []byte{byte(v)})
	}
}

func TestEachTwoBytes(t *testing.T) {
	for n := range 65536 {
		b := []byte{byte(n / 256), byte(n % 256)}
		wantPut(t, b, three(n))
		wantGet(t, three(n), b)
	}
}

func TestPutOfEachLength(t *testing.T) {
	for n := range 300 {
		b := noiseBytes(n, uint64(n))
		s := Put(b)
		if len(s) != n/2*3+n%2*2 {
			t.Errorf("P16.1: %d bytes are %d signs", n, len(s))
		}
		wantPut(t, b, signsOf(b))
		wantPut(t, make([]byte, n), strings.Repeat("0", n/2*3+n%2*2))
		wantPut(t, bytes.Repeat([]byte{255}, n), strings.Repeat("FGW", n/2)+strings.Repeat("U5", n%2))
	}
}

// What a group becomes hangs on itself alone, wherever it stands.
func TestGroupsOneByOne(t *testing.T) {
	b := noiseBytes(61, 5)
	s := ""
	for group := range slices.Chunk(b, 2) {
		s += string(Put(group))
	}
	wantPut(t, b, s)
	wantGet(t, s, b)
}

func TestGetEachThreeSigns(t *testing.T) {
	for n := range 45 * 45 * 45 {
		if n > 65535 {
			wantNone(t, three(n), api.ErrOver)
		} else {
			wantGet(t, three(n), []byte{byte(n / 256), byte(n % 256)})
		}
	}
}

func TestGetEachTwoSigns(t *testing.T) {
	for n := range 45 * 45 {
		if n > 255 {
			wantNone(t, two(n), api.ErrOver)
		} else {
			wantGet(t, two(n), []byte{byte(n)})
		}
	}
}

func TestGetEachTwoBytesAsSigns(t *testing.T) {
	for n := range 65536 {
		wantAsModel(t, []byte{byte(n / 256), byte(n % 256)})
	}
}

func TestLength(t *testing.T) {
	for n := range 200 {
		for _, c := range []string{"0", ":", "a", "\x00", "\xff"} {
			s := strings.Repeat(c, n)
			switch {
			case n%3 == 1:
				wantNone(t, s, api.ErrLength)
			case n == 0:
				wantGet(t, s, nil)
			case c == "0":
				wantGet(t, s, make([]byte, n/3*2+n%3/2))
			case c == ":":
				wantNone(t, s, api.ErrOver)
			default:
				wantNone(t, s, api.ErrDigit)
			}
		}
	}
}

func TestNoSigns(t *testing.T) {
	if n := len(noSigns()); n != 211 {
		t.Fatalf("P16.2: %d bytes are no sign", n)
	}
	for _, c := range noSigns() {
		for _, s := range []string{"00", "000", "::", ":::", "FGW", "BB8%69", "BB8EX", "FGWFGWU5", "000:::", "00000"} {
			for i := range len(s) {
				l := []byte(s)
				l[i] = c
				wantAsModel(t, l)
			}
		}
		wantNone(t, string([]byte{c}), api.ErrLength)
		wantNone(t, string([]byte{'0', c}), api.ErrDigit)
		wantNone(t, string([]byte{c, '0'}), api.ErrDigit)
		wantNone(t, string([]byte{c, '0', '0'}), api.ErrDigit)
		wantNone(t, string([]byte{'0', c, '0'}), api.ErrDigit)
		wantNone(t, string([]byte{'0', '0', c}), api.ErrDigit)
	}
}

func TestNoSignsExamples(t *testing.T) {
	for _, s := range []string{
		"bb8", "Bb8", "BB\n", "\tB8", "BB_", "B,8", "BB;", "#00", "00!", "0@0", "(00", "0)0", "[00", "0\x7f",
		"BB8QED8WEX0a0", "qed8wex0", "\u00e9", "\u00e9A", "\uff21", "00\xb0", "\x30\x80", "0=",
	} {
		if len(s)%3 == 1 {
			wantNone(t, s, api.ErrLength)
		} else {
			wantNone(t, s, api.ErrDigit)
		}
	}
}

// The front group's error is told first, and of one group ErrDigit ahead of ErrOver.
func TestErrorOrder(t *testing.T) {
	for _, x := range []struct {
		s string
		e api.Errno
	}{
		{"GGWa00", api.ErrOver},
		{":::aaa", api.ErrOver},
		{"a00GGW", api.ErrDigit},
		{"aaa:::", api.ErrDigit},
		{"GGWa0", api.ErrOver},
		{"GGW0a", api.ErrOver},
		{"a00V5", api.ErrDigit},
		{"00aV5", api.ErrDigit},
		{"000GGWa00", api.ErrOver},
		{"000a00GGW", api.ErrDigit},
		{"FGW:::00a:0", api.ErrOver},
		{"FGW00a:::::", api.ErrDigit},
		{"a::", api.ErrDigit},
		{":a:", api.ErrDigit},
		{"::a", api.ErrDigit},
		{"a:", api.ErrDigit},
		{":a", api.ErrDigit},
		{"000::a", api.ErrDigit},
		{"000:a", api.ErrDigit},
		{"000V5", api.ErrOver},
		{"GGW:", api.ErrLength},
		{"a00a", api.ErrLength},
		{":::aaa0", api.ErrLength},
		{"aaa:::a", api.ErrLength},
	} {
		wantNone(t, x.s, x.e)
	}
}

func TestOverEdges(t *testing.T) {
	for _, front := range []string{"", "000", "FGW", "BB8%69"} {
		own, _ := bytesOf([]byte(front))
		wantGet(t, front+"FGW", append(slices.Clone(own), 255, 255))
		wantGet(t, front+"U5", append(slices.Clone(own), 255))
		for _, s := range []string{"GGW", "FHW", "FGX", "00X", ":::", "00:", "V5", "U6", "06", ":5", "::", "0:"} {
			wantNone(t, front+s, api.ErrOver)
		}
	}
	for _, behind := range []string{"000", "00", "FGW", "U5"} {
		for _, s := range []string{"GGW", "FHW", "FGX", ":::"} {
			wantNone(t, s+behind, api.ErrOver)
		}
	}
}

func TestPutIsGot(t *testing.T) {
	for n := range 400 {
		b := noiseBytes(n, uint64(n)+1000)
		got, e := Get(Put(b))
		if e != api.OK || !bytes.Equal(got, b) {
			t.Errorf("P16.3: of %d bytes %v, %d, want %v", n, got, e, b)
		}
	}
	long := noiseBytes(1<<18+1, 7)
	if got, e := Get(Put(long)); e != api.OK || !bytes.Equal(got, long) {
		t.Errorf("P16.3: of %d bytes %d others, %d", len(long), len(got), e)
	}
}

// What is got is put as it was: no two texts are the same bytes.
func TestGotIsPut(t *testing.T) {
	next := noise(9)
	l := allSigns()
	got := 0
	for range 60000 {
		s := make([]byte, next()>>9%12)
		for i := range s {
			s[i] = l[next()>>9%45]
		}
		wantAsModel(t, s)
		b, e := Get(s)
		if e != api.OK {
			continue
		}
		got++
		if !bytes.Equal(Put(b), s) {
			t.Errorf("P16.3: Put(Get(%q)) = %q", s, Put(b))
		}
	}
	if got < 10000 {
		t.Errorf("P16.3: of 60000 texts %d are got", got)
	}
}

func TestAnyBytesAreGotOrRefused(t *testing.T) {
	for n := range 3000 {
		wantAsModel(t, noiseBytes(n%40, uint64(n)+77))
	}
	for n := range 3000 {
		b := noiseBytes(1+n%40, uint64(n)+99)
		s := Put(b)
		i, c := noise(uint64(n))()>>3%len(s), noiseBytes(1, uint64(n))[0]
		s[i] = c
		wantAsModel(t, s)
		wantAsModel(t, s[:i])
		wantAsModel(t, append(s[:i:i], s[i+1:]...))
	}
}

func TestArgumentsStay(t *testing.T) {
	for n := range 20 {
		room := noiseBytes(n+8, uint64(n))
		was := slices.Clone(room)
		Put(room[:n])
		if !bytes.Equal(room, was) {
			t.Errorf("R2: Put changed its %d bytes, or what is behind them", n)
		}
		text := append(Put(room[:n]), ":::a00::"...)
		own := slices.Clone(text)
		Get(text[:len(text)-8])
		Get(text)
		Get(text[:len(text)-3])
		if !bytes.Equal(text, own) {
			t.Errorf("R2: Get changed its signs, or what is behind them")
		}
	}
}

func TestAnswersStay(t *testing.T) {
	b := []byte("Hello!!")
	s := Put(b)
	again := Put(b)
	for i := range s {
		s[i] = 'x'
	}
	if string(again) != "%69 VD92EX0" || string(Put(b)) != "%69 VD92EX0" || string(b) != "Hello!!" {
		t.Errorf("R2: what Put answered shares its memory")
	}
	text := []byte("%69 VD92EX0")
	got, _ := Get(text)
	other, _ := Get(text)
	for i := range got {
		got[i] = 'x'
	}
	later, e := Get(text)
	if string(other) != "Hello!!" || string(later) != "Hello!!" || e != api.OK || string(text) != "%69 VD92EX0" {
		t.Errorf("R2: what Get answered shares its memory")
	}
	if _, e := Get([]byte("a00")); e != api.ErrDigit {
		t.Errorf("R2: Get(a00) = %d", e)
	}
	wantGet(t, "%69 VD92EX0", []byte("Hello!!"))
}

func TestNilIsEmpty(t *testing.T) {
	if s := Put(nil); len(s) != 0 {
		t.Errorf("P16.1: Put(nil) = %q", s)
	}
	if b, e := Get(nil); len(b) != 0 || e != api.OK {
		t.Errorf("P16.2: Get(nil) = %v, %d", b, e)
	}
}
