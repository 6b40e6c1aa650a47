package sha

import (
	"bytes"
	"crypto/sha256"
	"encoding"
	"encoding/binary"
	"encoding/hex"
	"math/big"
	"slices"
	"strings"
	"testing"
)

// noise is n bytes without a pattern, always the same ones.
func noise(n int) []byte {
	b := make([]byte, n)
	x := uint32(n)*2654435761 + 1
	for i := range b {
		x = x*1664525 + 1013904223
		b[i] = byte(x >> 24)
	}
	return b
}

// wordAt is the word of four bytes of b, from i on.
func wordAt(b []byte, i int) uint32 {
	return binary.BigEndian.Uint32(b[i:])
}

// blockAt is the sixteen words of b, from i on.
func blockAt(b []byte, i int) [16]uint32 {
	w := [16]uint32{}
	for j := range w {
		w[j] = wordAt(b, i+4*j)
	}
	return w
}

// stateOf is eight words of b.
func stateOf(b []byte) [8]uint32 {
	h := [8]uint32{}
	for j := range h {
		h[j] = wordAt(b, 4*j)
	}
	return h
}

// bytesOf is the bytes of eight words.
func bytesOf(h [8]uint32) [32]byte {
	b := [32]byte{}
	for i, x := range h {
		binary.BigEndian.PutUint32(b[4*i:], x)
	}
	return b
}

// libraryBlock is Block by the library's digest, which is set to h ahead of w and asked for its words behind it.
func libraryBlock(t *testing.T, h [8]uint32, w [16]uint32) [8]uint32 {
	t.Helper()
	begin := bytesOf(h)
	state := slices.Concat([]byte("sha\x03"), begin[:], make([]byte, 64), make([]byte, 8))
	d := sha256.New()
	if err := d.(encoding.BinaryUnmarshaler).UnmarshalBinary(state); err != nil {
		t.Fatal(err)
	}
	for _, x := range w {
		d.Write(binary.BigEndian.AppendUint32(nil, x))
	}
	state, err := d.(encoding.BinaryMarshaler).MarshalBinary()
	if err != nil {
		t.Fatal(err)
	}
	return stateOf(state[4:])
}

// primes are the first n ones.
func primes(n int) []int64 {
	var l []int64
	for x := int64(2); len(l) < n; x++ {
		if !slices.ContainsFunc(l, func(p int64) bool { return x%p == 0 }) {
			l = append(l, x)
		}
	}
	return l
}

// rootBits is the first 32 bits behind the point of the root of p of that degree.
func rootBits(p int64, degree uint) uint32 {
	scaled := new(big.Int).Lsh(big.NewInt(p), 32*degree)
	low, high := big.NewInt(0), new(big.Int).Lsh(big.NewInt(1), 40)
	for {
		middle := new(big.Int).Add(low, high)
		middle.Rsh(middle, 1)
		if middle.Cmp(low) == 0 {
			return uint32(low.Uint64())
		}
		if new(big.Int).Exp(middle, big.NewInt(int64(degree)), nil).Cmp(scaled) <= 0 {
			low = middle
		} else {
			high = middle
		}
	}
}

func TestConstantsAreCubeRoots(t *testing.T) {
	for i, p := range primes(64) {
		if want := rootBits(p, 3); constants[i] != want {
			t.Errorf("P2.2: K%d = %08x, want %08x", i, constants[i], want)
		}
	}
}

func TestBeginningIsSquareRoots(t *testing.T) {
	for i, p := range primes(8) {
		if want := rootBits(p, 2); beginning[i] != want {
			t.Errorf("P2.3: word %d of the beginning = %08x, want %08x", i, beginning[i], want)
		}
	}
}

func TestPadExamples(t *testing.T) {
	none := append([]byte{128}, make([]byte, 63)...)
	if got := Pad(nil); !bytes.Equal(got, none) {
		t.Errorf("P2.1: Pad(nil) = %v", got)
	}
	if got := Pad([]byte{}); !bytes.Equal(got, none) {
		t.Errorf("P2.1: Pad of no bytes = %v", got)
	}
	abc := slices.Concat([]byte("abc"), []byte{128}, make([]byte, 59), []byte{24})
	if got := Pad([]byte("abc")); !bytes.Equal(got, abc) {
		t.Errorf("P2.1: Pad(abc) = %v", got)
	}
}

// TestPadAtBlockEnds holds the lengths at which another block begins to be needed.
func TestPadAtBlockEnds(t *testing.T) {
	for _, c := range []struct{ n, want int }{
		{0, 64}, {1, 64}, {54, 64}, {55, 64}, {56, 128}, {63, 128}, {64, 128}, {65, 128},
		{118, 128}, {119, 128}, {120, 192}, {127, 192}, {128, 192}, {183, 192}, {184, 256},
	} {
		if got := len(Pad(noise(c.n))); got != c.want {
			t.Errorf("P2.1: Pad of %d bytes has %d, want %d", c.n, got, c.want)
		}
	}
}

// checkPadded holds p against what P2.1 says of Pad(b), part by part.
func checkPadded(t *testing.T, b, p []byte) {
	t.Helper()
	n := len(b)
	if len(p)%64 != 0 || len(p) < n+9 || len(p) >= n+9+64 {
		t.Fatalf("P2.1: Pad of %d bytes has %d", n, len(p))
	}
	if !bytes.Equal(p[:n], b) {
		t.Errorf("P2.1: Pad of %d bytes does not begin with them", n)
	}
	if p[n] != 128 {
		t.Errorf("P2.1: Pad of %d bytes has %d behind them", n, p[n])
	}
	if zeros := p[n+1 : len(p)-8]; !bytes.Equal(zeros, make([]byte, len(zeros))) {
		t.Errorf("P2.1: Pad of %d bytes has %v where bytes 0 stand", n, zeros)
	}
	if size := binary.BigEndian.Uint64(p[len(p)-8:]); size != 8*uint64(n) {
		t.Errorf("P2.1: Pad of %d bytes tells %d bits", n, size)
	}
}

func TestPadPartByPart(t *testing.T) {
	for n := range 600 {
		for _, b := range [][]byte{noise(n), make([]byte, n), bytes.Repeat([]byte{128}, n)} {
			checkPadded(t, b, Pad(b))
		}
	}
	for _, n := range []int{8191, 8192, 8193, 1<<21 - 1, 1 << 21, 1<<21 + 55} {
		b := noise(n)
		checkPadded(t, b, Pad(b))
	}
}

// TestPaddingOfMuch tries numbers of bits that need more than 32 bits, without the bytes themselves.
func TestPaddingOfMuch(t *testing.T) {
	for _, n := range []int{1<<29 - 1, 1 << 29, 1<<29 + 56, 1<<31 - 1, 1 << 40} {
		p := padding(n)
		if (n+len(p))%64 != 0 || len(p) > 72 || p[0] != 128 {
			t.Errorf("P2.1: behind %d bytes stands %v", n, p)
		}
		if size := binary.BigEndian.Uint64(p[len(p)-8:]); size != 8*uint64(n) {
			t.Errorf("P2.1: behind %d bytes stands the size %d", n, size)
		}
	}
}

// TestBlockExample is the one block that abc makes.
func TestBlockExample(t *testing.T) {
	w := [16]uint32{0: 0x61626380, 15: 24}
	want := [8]uint32{0xba7816bf, 0x8f01cfea, 0x414140de, 0x5dae2223, 0xb00361a3, 0x96177a9c, 0xb410ff61, 0xf20015ad}
	if got := Block(beginning, w); got != want {
		t.Errorf("P2.2: Block of abc = %08x, want %08x", got, want)
	}
}

func TestBlockAtTheEnds(t *testing.T) {
	states := [][8]uint32{{}, beginning, stateOf(bytes.Repeat([]byte{255}, 32)), stateOf(bytes.Repeat([]byte{128, 0, 0, 0}, 8))}
	blocks := [][16]uint32{{}, blockAt(bytes.Repeat([]byte{255}, 64), 0), blockAt(bytes.Repeat([]byte{128, 0, 0, 1}, 16), 0)}
	for _, h := range states {
		for _, w := range blocks {
			if got, want := Block(h, w), libraryBlock(t, h, w); got != want {
				t.Errorf("P2.2: Block(%08x, %08x) = %08x, want %08x", h, w, got, want)
			}
		}
	}
}

// TestBlockOfSingleBits sets every bit of the words, and of the beginning, by itself.
func TestBlockOfSingleBits(t *testing.T) {
	for i := range 512 {
		w := [16]uint32{}
		w[i/32] = 1 << (i % 32)
		if got, want := Block(beginning, w), libraryBlock(t, beginning, w); got != want {
			t.Errorf("P2.2: Block of bit %d of the words = %08x, want %08x", i, got, want)
		}
	}
	for i := range 256 {
		h := [8]uint32{}
		h[i/32] = 1 << (i % 32)
		if got, want := Block(h, [16]uint32{}), libraryBlock(t, h, [16]uint32{}); got != want {
			t.Errorf("P2.2: Block of bit %d of h = %08x, want %08x", i, got, want)
		}
	}
}

func TestBlockOfNoise(t *testing.T) {
	for i := range 500 {
		b := noise(96 + i)
		h, w := stateOf(b), blockAt(b, 32)
		got := Block(h, w)
		if want := libraryBlock(t, h, w); got != want {
			t.Errorf("P2.2: Block(%08x, %08x) = %08x, want %08x", h, w, got, want)
		}
		if again := Block(h, w); again != got {
			t.Errorf("R2: Block(%08x, %08x) = %08x, then %08x", h, w, got, again)
		}
	}
}

func TestSumExamples(t *testing.T) {
	for _, c := range []struct{ text, want string }{
		{"", "e3b0c44298fc1c149afbf4c8996fb92427ae41e4649b934ca495991b7852b855"},
		{"abc", "ba7816bf8f01cfea414140de5dae2223b00361a396177a9cb410ff61f20015ad"},
		{"abcdbcdecdefdefgefghfghighijhijkijkljklmklmnlmnomnopnopq", "248d6a61d20638b8e5c026930c3e6039a33ce45964ff2167f6ecedd419db06c1"},
		{strings.Repeat("a", 1000000), "cdc76e5c9914fb9281a1c7e284d73e67f1809a48a497200e046d39ccc7112cd0"},
	} {
		got := Sum([]byte(c.text))
		if told := hex.EncodeToString(got[:]); told != c.want {
			t.Errorf("P2.3: Sum of %d bytes = %s, want %s", len(c.text), told, c.want)
		}
	}
	if Sum(nil) != Sum([]byte{}) {
		t.Error("P2.3: nil and no bytes have different digests")
	}
	if got := Sum([]byte("abc")); [4]byte(got[:4]) != [4]byte{186, 120, 22, 191} {
		t.Errorf("P2.3: Sum(abc) begins with %v", got[:4])
	}
}

func TestSumOfEveryLength(t *testing.T) {
	for n := range 1100 {
		for _, b := range [][]byte{noise(n), make([]byte, n), bytes.Repeat([]byte{255}, n)} {
			if got, want := Sum(b), sha256.Sum256(b); got != want {
				t.Errorf("P2.3: Sum of %d bytes = %x, want %x", n, got, want)
			}
		}
	}
	for _, n := range []int{8191, 8192, 65536, 1<<21 - 9, 1 << 21} {
		b := noise(n)
		if got, want := Sum(b), sha256.Sum256(b); got != want {
			t.Errorf("P2.3: Sum of %d bytes = %x, want %x", n, got, want)
		}
	}
}

// after is h, behind all blocks of b.
func after(h [8]uint32, b []byte) [8]uint32 {
	for i := 0; i < len(b); i += 64 {
		h = Block(h, blockAt(b, i))
	}
	return h
}

// TestPartsMakeTheWhole cuts what is padded between any two blocks, and goes on from the first part's words.
func TestPartsMakeTheWhole(t *testing.T) {
	for _, n := range []int{0, 3, 55, 56, 64, 119, 120, 200, 512, 1000} {
		b := noise(n)
		p := Pad(b)
		want := Sum(b)
		for cut := 0; cut <= len(p); cut += 64 {
			first := after(beginning, p[:cut])
			if got := bytesOf(after(first, p[cut:])); got != want {
				t.Errorf("P2.4: %d bytes, parted at %d, have the digest %x, want %x", n, cut, got, want)
			}
		}
	}
}

func TestPaddedTellsWhatItWas(t *testing.T) {
	seen := map[string]bool{}
	count := 0
	for n := range 200 {
		// Bytes 0 and 128 at the end look most like padding.
		for _, end := range [][]byte{nil, {0}, {128}, {128, 0}, {128, 0, 0, 0, 0, 0, 0, 0, 8}} {
			b := append(noise(n), end...)
			p := Pad(b)
			size := binary.BigEndian.Uint64(p[len(p)-8:]) / 8
			if size != uint64(len(b)) || !bytes.Equal(p[:size], b) {
				t.Errorf("P2.4: what was padded of %v tells %d bytes", b, size)
			}
			seen[string(p)] = true
			count++
		}
	}
	if len(seen) != count {
		t.Errorf("P2.4: %d lists of bytes made %d padded ones", count, len(seen))
	}
}

func TestArgumentsStayAndAnswersAreNew(t *testing.T) {
	whole := noise(300)
	for n := range 200 {
		kept := slices.Clone(whole)
		p := Pad(whole[:n])
		Sum(whole[:n])
		if !bytes.Equal(whole, kept) {
			t.Fatalf("R2: %d bytes were handed in, and their memory is now %v", n, whole)
		}
		clear(p)
		if !bytes.Equal(whole, kept) {
			t.Fatalf("R2: what came out of %d bytes shares memory with them", n)
		}
	}
}

func TestArraysStay(t *testing.T) {
	h, w := stateOf(noise(32)), blockAt(noise(64), 0)
	oldH, oldW, oldBeginning, oldConstants := h, w, beginning, constants
	Block(h, w)
	Sum(noise(300))
	if h != oldH || w != oldW || beginning != oldBeginning || constants != oldConstants {
		t.Error("R2: words that were handed in, or a table, were changed")
	}
}
