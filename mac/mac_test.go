package mac

import (
	"bytes"
	"crypto/hmac"
	"crypto/sha256"
	"encoding/hex"
	"slices"
	"testing"
)

// noise is n bytes without a pattern, always the same ones; the last one is never 0.
func noise(n int) []byte {
	b := make([]byte, n)
	x := uint32(n)*2654435761 + 1
	for i := range b {
		x = x*1664525 + 1013904223
		b[i] = byte(x >> 24)
	}
	if n > 0 {
		b[n-1] |= 1
	}
	return b
}

// libraryTag is Tag by the library.
func libraryTag(secret, b []byte) [32]byte {
	h := hmac.New(sha256.New, secret)
	h.Write(b)
	return [32]byte(h.Sum(nil))
}

// digestOf is the library's digest of b, as a list.
func digestOf(b []byte) []byte {
	d := sha256.Sum256(b)
	return d[:]
}

// lengths are those around a block's, and around those at which the digest needs another block.
func lengths() []int {
	return []int{0, 1, 20, 31, 32, 33, 54, 55, 56, 57, 63, 64, 65, 66, 119, 120, 127, 128, 129, 131, 192, 1000}
}

func TestBlockExamples(t *testing.T) {
	if got := Block(nil); got != [64]byte{} {
		t.Errorf("P3.1: Block(nil) = %v", got)
	}
	if got := Block([]byte{}); got != [64]byte{} {
		t.Errorf("P3.1: Block of no bytes = %v", got)
	}
	if got := Block([]byte("Jefe")); got != [64]byte{'J', 'e', 'f', 'e'} {
		t.Errorf("P3.1: Block(Jefe) = %v", got)
	}
	if got := Block([]byte{0, 0, 7, 0}); got != [64]byte{2: 7} {
		t.Errorf("P3.1: Block of 0, 0, 7 and 0 = %v", got)
	}
}

func TestBlockUpToItsLength(t *testing.T) {
	for n := range 65 {
		for _, secret := range [][]byte{noise(n), make([]byte, n), bytes.Repeat([]byte{255}, n)} {
			got := Block(secret)
			if !bytes.Equal(got[:n], secret) {
				t.Errorf("P3.1: Block of %v begins with %v", secret, got[:n])
			}
			if !bytes.Equal(got[n:], make([]byte, 64-n)) {
				t.Errorf("P3.1: Block of %d bytes ends in %v", n, got[n:])
			}
		}
	}
}

func TestBlockOfLongSecrets(t *testing.T) {
	for _, n := range []int{65, 66, 96, 127, 128, 129, 256, 1000, 1 << 20} {
		for _, secret := range [][]byte{noise(n), make([]byte, n), bytes.Repeat([]byte{255}, n)} {
			got := Block(secret)
			if !bytes.Equal(got[:32], digestOf(secret)) {
				t.Errorf("P3.1: Block of %d bytes begins with %x, want %x", n, got[:32], digestOf(secret))
			}
			if !bytes.Equal(got[32:], make([]byte, 32)) {
				t.Errorf("P3.1: Block of %d bytes ends in %v", n, got[32:])
			}
		}
	}
}

// TestTagExamples holds the chapter's examples first, then more of the published ones.
func TestTagExamples(t *testing.T) {
	for _, c := range []struct {
		secret []byte
		text   string
		want   string
	}{
		{bytes.Repeat([]byte{11}, 20), "Hi There", "b0344c61d8db38535ca8afceaf0bf12b881dc200c9833da726e9376c2e32cff7"},
		{[]byte("Jefe"), "what do ya want for nothing?", "5bdcc146bf60754e6a042426089575c75a003f089d2739839dec58b964ec3843"},
		{bytes.Repeat([]byte{0xaa}, 20), string(bytes.Repeat([]byte{0xdd}, 50)), "773ea91e36800e46854db8ebd09181a72959098b3ef8c122d9635514ced565fe"},
		{bytes.Repeat([]byte{0xaa}, 131), "Test Using Larger Than Block-Size Key - Hash Key First", "60e431591ee0b67f0d8a26aacbf5b77f8e0bc6213728c5140546040f0ee37f54"},
		{nil, "", "b613679a0814d9ec772f95d778c35fc5ff1697c493715653c6c712144292c5ad"},
	} {
		got := Tag(c.secret, []byte(c.text))
		if told := hex.EncodeToString(got[:]); told != c.want {
			t.Errorf("P3.2: Tag(%v, %q) = %s, want %s", c.secret, c.text, told, c.want)
		}
	}
}

func TestTagOfEveryLength(t *testing.T) {
	for _, m := range lengths() {
		for n := range 140 {
			secret, b := noise(m), noise(n)
			if got, want := Tag(secret, b), libraryTag(secret, b); got != want {
				t.Errorf("P3.2: Tag of %d and %d bytes = %x, want %x", m, n, got, want)
			}
		}
	}
	for m := range 200 {
		for _, n := range lengths() {
			secret, b := noise(m), noise(n)
			if got, want := Tag(secret, b), libraryTag(secret, b); got != want {
				t.Errorf("P3.2: Tag of %d and %d bytes = %x, want %x", m, n, got, want)
			}
		}
	}
	for _, n := range []int{8191, 8192, 1<<20 + 3} {
		secret, b := noise(n), noise(n)
		if got, want := Tag(secret, secret[:64]), libraryTag(secret, secret[:64]); got != want {
			t.Errorf("P3.2: Tag of %d bytes and 64 = %x, want %x", n, got, want)
		}
		if got, want := Tag(secret[:64], b), libraryTag(secret[:64], b); got != want {
			t.Errorf("P3.2: Tag of 64 bytes and %d = %x, want %x", n, got, want)
		}
	}
}

// TestTagIsTwoDigests tells both sides byte by byte, as the promise does.
func TestTagIsTwoDigests(t *testing.T) {
	for _, m := range lengths() {
		for _, n := range lengths() {
			secret, b := noise(m), noise(n)
			outer, inner := []byte{}, []byte{}
			for _, x := range Block(secret) {
				outer = append(outer, x^92)
				inner = append(inner, x^54)
			}
			want := digestOf(append(outer, digestOf(append(inner, b...))...))
			if got := Tag(secret, b); !bytes.Equal(got[:], want) {
				t.Errorf("P3.2: Tag of %d and %d bytes = %x, want %x", m, n, got, want)
			}
		}
	}
}

func TestTagOfNothing(t *testing.T) {
	want := Tag([]byte{}, []byte{})
	for _, secret := range [][]byte{nil, {}} {
		for _, b := range [][]byte{nil, {}} {
			if got := Tag(secret, b); got != want {
				t.Errorf("P3.2: Tag(%#v, %#v) = %x, want %x", secret, b, got, want)
			}
		}
	}
}

func TestBytesZeroAtTheEndDoNotMatter(t *testing.T) {
	b := []byte("17 to 23")
	for n := range 65 {
		secret := noise(n)
		block, tag := Block(secret), Tag(secret, b)
		for more := range 65 - n {
			longer := slices.Concat(secret, make([]byte, more))
			if Block(longer) != block || Tag(longer, b) != tag {
				t.Errorf("P3.3: %d bytes, and %d bytes 0 behind them, have different blocks or tags", n, more)
			}
		}
	}
}

func TestLongSecretIsItsDigest(t *testing.T) {
	b := []byte("17 to 23")
	for _, n := range []int{65, 66, 127, 128, 131, 1000} {
		for _, secret := range [][]byte{noise(n), make([]byte, n)} {
			digest := digestOf(secret)
			if Block(secret) != Block(digest) || Tag(secret, b) != Tag(digest, b) {
				t.Errorf("P3.3: %d bytes and their digest have different blocks or tags", n)
			}
		}
	}
	short := noise(64)
	if Block(short) == Block(digestOf(short)) || Tag(short, b) == Tag(digestOf(short), b) {
		t.Error("P3.1: 64 bytes have the block or the tag of their digest")
	}
}

// TestOtherSecretsHaveOtherTags holds secrets of different blocks, and bytes that differ, against one another.
func TestOtherSecretsHaveOtherTags(t *testing.T) {
	secrets := [][]byte{{}, {0, 1}, {1}, {1, 1}, {1, 0, 1}, make([]byte, 65), make([]byte, 66)}
	for n := 2; n < 130; n++ {
		secrets = append(secrets, noise(n))
	}
	for i := range 64 {
		one := make([]byte, 64)
		one[i] = 128
		secrets = append(secrets, one)
	}
	blocks := map[[64]byte]bool{}
	tags := map[[32]byte]bool{}
	count := 0
	for _, secret := range secrets {
		blocks[Block(secret)] = true
		for _, b := range [][]byte{nil, {0}, {0, 0}, {1}, noise(64), noise(65)} {
			tags[Tag(secret, b)] = true
			count++
		}
	}
	if len(blocks) != len(secrets) || len(tags) != count {
		t.Errorf("P3.3: %d secrets have %d blocks and %d tags, want %d", len(secrets), len(blocks), len(tags), count)
	}
}

func TestArgumentsStayAndAnswersHangOnThemAlone(t *testing.T) {
	for _, m := range lengths() {
		for _, n := range lengths() {
			// One memory behind the other: a tag that wrote behind its secret would be seen.
			whole := noise(m + n)
			kept := slices.Clone(whole)
			secret, b := whole[:m], whole[m:]
			block, tag := Block(secret), Tag(secret, b)
			if !bytes.Equal(whole, kept) {
				t.Fatalf("R2: %d and %d bytes were handed in, and are now %v", m, n, whole)
			}
			if Block(secret) != block || Tag(secret, b) != tag {
				t.Errorf("R2: %d and %d bytes have another answer the second time", m, n)
			}
		}
	}
}
