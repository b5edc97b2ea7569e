package sha256_test

import (
	stdsha "crypto/sha256"
	"encoding/binary"
	"encoding/hex"
	"math/rand"
	"slices"
	"strings"
	"sync"
	"testing"

	"modcert/api"
	"modcert/sha256"
)

const blockSize = 64

// sample returns bytes that depend on the position, so that a swap of bytes is visible.
func sample(size int) string {
	b := make([]byte, size)
	rand.New(rand.NewSource(int64(size))).Read(b)
	return string(b)
}

func reference(s string) string {
	d := stdsha.Sum256([]byte(s))
	return string(d[:])
}

// P1.1: the examples of the chapter and of FIPS 180-4.
func TestSumOfKnownStrings(t *testing.T) {
	known := map[string]string{
		"":    "e3b0c44298fc1c149afbf4c8996fb92427ae41e4649b934ca495991b7852b855",
		"abc": "ba7816bf8f01cfea414140de5dae2223b00361a396177a9cb410ff61f20015ad",
		"abcdbcdecdefdefgefghfghighijhijkijkljklmklmnlmnomnopnopq":                                                         "248d6a61d20638b8e5c026930c3e6039a33ce45964ff2167f6ecedd419db06c1",
		"abcdefghbcdefghicdefghijdefghijkefghijklfghijklmghijklmnhijklmnoijklmnopjklmnopqklmnopqrlmnopqrsmnopqrstnopqrstu": "cf5b16a778af8380036ce59e7b0492370b249b11e8f07a51afac45037afee9d1",
		strings.Repeat("a", 1000000): "cdc76e5c9914fb9281a1c7e284d73e67f1809a48a497200e046d39ccc7112cd0",
	}
	for s, want := range known {
		if got := hex.EncodeToString([]byte(sha256.Sum(s))); got != want {
			t.Errorf("the digest of %d bytes is %s, not %s", len(s), got, want)
		}
	}
}

// P1.1: all lengths around the ends of the first blocks, where the padding changes its size.
func TestSumOfAllLengths(t *testing.T) {
	for size := range 4*blockSize + 2 {
		for _, s := range []string{sample(size), strings.Repeat("\x00", size), strings.Repeat("\xff", size)} {
			if sha256.Sum(s) != reference(s) {
				t.Errorf("wrong digest of %q", s)
			}
		}
	}
	for _, size := range []int{api.MaxText, 1<<20 + 55, 1<<20 + 56} {
		if s := sample(size); sha256.Sum(s) != reference(s) {
			t.Errorf("wrong digest of %d bytes", size)
		}
	}
}

// P1.1: a length in bits that needs more than 32 bits.
func TestSumOfLongString(t *testing.T) {
	if testing.Short() {
		t.Skip("hashes 512 MiB")
	}
	chunk := sample(1 << 20)
	h, want := sha256.New(), stdsha.New()
	for range 1<<9 + 1 {
		h.Write(chunk)
		want.Write([]byte(chunk))
	}
	if h.Sum() != string(want.Sum(nil)) {
		t.Error("wrong digest of more than 2^32 bits")
	}
}

func concatenation(tag string, parts ...string) string {
	var b []byte
	for _, s := range append([]string{tag}, parts...) {
		b = binary.BigEndian.AppendUint64(b, uint64(len(s)))
		b = append(b, s...)
	}
	return string(b)
}

// P1.1: tags and parts, also empty ones, none, and ones that are longer than a block and than 255 bytes.
func TestTagged(t *testing.T) {
	if want := "\x00\x00\x00\x00\x00\x00\x00\x01a\x00\x00\x00\x00\x00\x00\x00\x02bc"; concatenation("a", "bc") != want {
		t.Fatalf("the test is wrong: %q", want)
	}
	lists := [][]string{{""}, {"a"}, {"a", ""}, {"a", "", ""}, {"", "a"}, {"ab", "c", "de"}, {"a", "b", "c"}, {"ab", "c"}, {"a", "bc"}, {"abc"},
		{"\x00\xff", "\xfe"}, {sample(300), sample(70000), sample(64)}, slices.Repeat([]string{"x"}, 1000)}
	seen := map[string]bool{}
	for i, l := range lists {
		got := sha256.Tagged(l[0], l[1:]...)
		if got != reference(concatenation(l[0], l[1:]...)) {
			t.Errorf("wrong tagged digest of list %d", i)
		}
		if seen[got] {
			t.Errorf("list %d has the digest of another list", i)
		}
		seen[got] = true
	}
	if sha256.Tagged("a", nil...) != sha256.Tagged("a") {
		t.Error("nil is not the empty list")
	}
}

// P1.2: every byte, and strings of all sizes.
func TestHex(t *testing.T) {
	if got := sha256.Hex(""); got != "" {
		t.Errorf("Hex of the empty string is %q", got)
	}
	if got := sha256.Hex("\x00\x09\x0a\x0f\x10\x9a\xa9\xff"); got != "00090a0f109aa9ff" {
		t.Errorf("Hex is %s", got)
	}
	for c := range 256 {
		s := string([]byte{byte(c)})
		if sha256.Hex(s) != hex.EncodeToString([]byte(s)) {
			t.Errorf("Hex of byte %d is %s", c, sha256.Hex(s))
		}
	}
	if s := sample(1000); sha256.Hex(s) != hex.EncodeToString([]byte(s)) {
		t.Error("wrong digits of 1000 bytes")
	}
}

// P1.2, P1.4: what Hex writes for a digest is parsed as this digest.
func TestParse(t *testing.T) {
	all := sample(32 * 64)
	for i := range 64 {
		d := all[32*i : 32*i+32]
		if got, e := sha256.Parse(sha256.Hex(d)); got != d || e != api.OK {
			t.Errorf("Parse of %s is %x, %d", sha256.Hex(d), got, e)
		}
	}
	for _, d := range []string{strings.Repeat("\x00", 32), strings.Repeat("\xff", 32), sha256.Sum(""), sha256.Sum("abc")} {
		if got, e := sha256.Parse(sha256.Hex(d)); got != d || e != api.OK {
			t.Errorf("Parse of %s is %x, %d", sha256.Hex(d), got, e)
		}
	}
}

// P1.2: every byte that is no digit, at every position, and every other length.
func TestParseErrors(t *testing.T) {
	refused := func(s string) {
		t.Helper()
		if got, e := sha256.Parse(s); got != "" || e != api.ErrSyntax {
			t.Errorf("Parse(%q) is %x, %d", s, got, e)
		}
	}
	good := sha256.Hex(sha256.Sum("abc"))
	for size := range 200 {
		if size != len(good) {
			refused(strings.Repeat("0", size))
		}
	}
	for c := range 256 {
		if strings.IndexByte("0123456789abcdef", byte(c)) >= 0 {
			continue
		}
		for at := range good {
			refused(good[:at] + string([]byte{byte(c)}) + good[at+1:])
		}
	}
	refused(strings.ToUpper(good))
	refused(good[:63] + "\u0660")
	refused(" " + good)
	refused(good + "\n")
}

// P1.3: a new state has the digest of the empty string, and Write("") adds nothing.
func TestNew(t *testing.T) {
	h := sha256.New()
	if h.Sum() != reference("") {
		t.Error("a new state is not empty")
	}
	h.Write("")
	if h.Sum() != reference("") {
		t.Error("the empty string adds something")
	}
	other := sha256.New()
	other.Write("x")
	if h.Sum() != reference("") || sha256.New().Sum() != reference("") {
		t.Error("states share their bytes")
	}
}

// P1.3, P1.4: a digest does not depend on how the bytes were divided, whatever was asked in between.
func TestWritesInPieces(t *testing.T) {
	s := sample(3*blockSize + 5)
	for first := range len(s) + 1 {
		h := sha256.New()
		h.Write(s[:first])
		if h.Sum() != reference(s[:first]) {
			t.Errorf("wrong digest of the first %d bytes", first)
		}
		h.Write(s[first:])
		if h.Sum() != reference(s) || h.Sum() != reference(s) {
			t.Errorf("wrong digest of a division after %d bytes, or Sum changes the state", first)
		}
	}
	random := rand.New(rand.NewSource(1))
	for round := range 200 {
		text := sample(round * 7)
		h := sha256.New()
		for at := 0; at < len(text); {
			size := min(random.Intn(150), len(text)-at)
			h.Write(text[at : at+size])
			at += size
		}
		if h.Sum() != reference(text) {
			t.Errorf("wrong digest of pieces in round %d", round)
		}
	}
}

// P1.3: a clone has the same bytes, and neither state changes with the other one.
func TestClone(t *testing.T) {
	for size := range 2*blockSize + 2 {
		s := sample(size)
		h := sha256.New()
		h.Write(s)
		k := h.Clone()
		if k.Sum() != reference(s) {
			t.Fatalf("the clone has other bytes after %d bytes", size)
		}
		h.Write("left")
		k.Write("right, longer")
		c := k.Clone()
		c.Write(s)
		if h.Sum() != reference(s+"left") || k.Sum() != reference(s+"right, longer") || c.Sum() != reference(s+"right, longer"+s) {
			t.Errorf("the clones are not independent after %d bytes", size)
		}
	}
}

// P1.4: all digests have 32 bytes.
func TestDigestSize(t *testing.T) {
	h := sha256.New()
	h.Write("abc")
	for i, d := range []string{sha256.Sum(""), sha256.Sum("abc"), sha256.Tagged(""), sha256.Tagged("a", "b"), h.Sum(), sha256.New().Sum()} {
		if len(d) != api.DigestSize {
			t.Errorf("digest %d has %d bytes", i, len(d))
		}
	}
}

// P1: strings of any bytes, also ones that are no UTF-8; a failure is a panic.
func TestNoFunctionPanics(t *testing.T) {
	for size := range 100 {
		s := sample(size)
		sha256.Sum(s)
		sha256.Tagged(s, s, "", s)
		sha256.Hex(s)
		sha256.Parse(s)
		sha256.Parse(sha256.Hex(s))
	}
}

// P2, P3: goroutines get the same digests, and the parts of a list stay as they are.
func TestSharedUse(t *testing.T) {
	parts := []string{"a", "", sample(100), "b"}
	kept := slices.Clone(parts)
	want := reference(concatenation("tag", parts...))
	whole := sha256.New()
	whole.Write(parts[2])
	var all sync.WaitGroup
	for range 8 {
		all.Add(1)
		go func() {
			defer all.Done()
			for range 50 {
				if sha256.Tagged("tag", parts...) != want || sha256.Sum(parts[2]) != reference(parts[2]) {
					t.Error("another digest in a goroutine")
				}
				if d, e := sha256.Parse(sha256.Hex(want)); d != want || e != api.OK {
					t.Error("another parse in a goroutine")
				}
				h := sha256.New()
				h.Write(parts[2])
				if h.Sum() != whole.Sum() {
					t.Error("another state in a goroutine")
				}
			}
		}()
	}
	all.Wait()
	if !slices.Equal(parts, kept) {
		t.Error("Tagged has changed its argument")
	}
}

// P3: a later change of an argument changes no earlier result.
func TestArgumentsAreNotKept(t *testing.T) {
	parts := []string{"a", "b"}
	d := sha256.Tagged("tag", parts...)
	want := strings.Clone(d)
	parts[0] = "changed"
	if d != want || sha256.Tagged("tag", "a", "b") != want {
		t.Error("a digest has changed with the list")
	}
}
