package codec_test

import (
	"encoding/binary"
	"math"
	"math/big"
	"math/rand"
	"slices"
	"strings"
	"sync"
	"testing"

	"modcert/api"
	"modcert/codec"
)

// numbers returns integers at the ends of all sizes, and others in between.
func numbers() []int {
	list := []int{0, 1, 2, 300, math.MaxInt, math.MaxInt - 1, math.MinInt, math.MinInt + 1}
	for shift := range 63 {
		list = append(list, 1<<shift-1, 1<<shift, 1<<shift+1, -1<<shift-1, -1<<shift, -1<<shift+1)
	}
	random := rand.New(rand.NewSource(1))
	for range 200 {
		n := int(random.Uint64()) >> random.Intn(64)
		list = append(list, n, -n)
	}
	return list
}

// unsigned writes a number as the chapter says, without a limit.
func unsigned(n *big.Int) string {
	var b []byte
	rest, group := new(big.Int).Set(n), new(big.Int)
	for {
		rest.DivMod(rest, big.NewInt(128), group)
		if rest.Sign() == 0 {
			return string(append(b, byte(group.Int64())))
		}
		b = append(b, byte(group.Int64())|128)
	}
}

// zigzag returns 2 n or -2 n - 1.
func zigzag(n int) *big.Int {
	doubled := new(big.Int).Mul(big.NewInt(2), big.NewInt(int64(n)))
	if n < 0 {
		doubled.Neg(doubled)
		doubled.Sub(doubled, big.NewInt(1))
	}
	return doubled
}

func mustUint(t *testing.T, n int) string {
	t.Helper()
	s, e := codec.Uint(n)
	if e != api.OK {
		t.Fatalf("Uint(%d) has error %d", n, e)
	}
	return s
}

// P2.1: the examples of the chapter.
func TestExamples(t *testing.T) {
	if mustUint(t, 300) != "\xac\x02" || codec.Int(-1) != "\x01" || codec.Int(1) != "\x02" || codec.Text("ab") != "\x02ab" || codec.Texts("", "a") != "\x02\x00\x01a" {
		t.Error("an example is wrong")
	}
	r := codec.NewReader("\x80\x00")
	if r.Uint() != 0 || r.Error() != api.ErrCorrupt {
		t.Error("80 00 is read as a number")
	}
}

// P2.1: integers of all sizes, and ErrRange for negative ones.
func TestWriteNumbers(t *testing.T) {
	for _, n := range numbers() {
		got, e := codec.Uint(n)
		if n < 0 && (got != "" || e != api.ErrRange) {
			t.Errorf("Uint(%d) is %x, %d", n, got, e)
		}
		if n >= 0 && (got != unsigned(big.NewInt(int64(n))) || e != api.OK || got != string(binary.AppendUvarint(nil, uint64(n)))) {
			t.Errorf("Uint(%d) is %x, %d", n, got, e)
		}
		if got := codec.Int(n); got != unsigned(zigzag(n)) || got != string(binary.AppendVarint(nil, int64(n))) {
			t.Errorf("Int(%d) is %x", n, got)
		}
	}
}

// P2.1: strings and lists, also empty ones and ones whose sizes need several bytes.
func TestWriteStrings(t *testing.T) {
	long := strings.Repeat("\xff\x00", 100)
	for s, want := range map[string]string{"": "\x00", "a": "\x01a", "\x80": "\x01\x80", strings.Repeat("x", 127): "\x7f" + strings.Repeat("x", 127), strings.Repeat("x", 128): "\x80\x01" + strings.Repeat("x", 128), long: "\xc8\x01" + long} {
		if got := codec.Text(s); got != want {
			t.Errorf("Text(%q) is %q", s, got)
		}
	}
	if got := codec.Texts(); got != "\x00" {
		t.Errorf("Texts() is %q", got)
	}
	if got := codec.Texts(nil...); got != "\x00" {
		t.Errorf("Texts of nil is %q", got)
	}
	if got := codec.Texts("", "", "bc", long); got != "\x04\x00\x00\x02bc\xc8\x01"+long {
		t.Errorf("Texts is %q", got)
	}
	if got := codec.Texts(make([]string, 300)...); got != "\xac\x02"+strings.Repeat("\x00", 300) {
		t.Errorf("Texts of 300 empty strings is %q", got)
	}
}

// P2.2, P2.4: what is written is read back, whatever follows.
func TestReadNumbers(t *testing.T) {
	for _, n := range numbers() {
		for _, after := range []string{"", "\x00", "\x80", "\xff\xff", "x"} {
			want := api.OK
			if after != "" {
				want = api.ErrCorrupt
			}
			r := codec.NewReader(codec.Int(n) + after)
			if got := r.Int(); got != n || r.Error() != api.OK || r.End() != want {
				t.Errorf("Int of %d is read as %d, %d, %d", n, got, r.Error(), r.End())
			}
			if n < 0 {
				continue
			}
			r = codec.NewReader(mustUint(t, n) + after)
			if got := r.Uint(); got != n || r.Error() != api.OK || r.End() != want {
				t.Errorf("Uint of %d is read as %d, %d, %d", n, got, r.Error(), r.End())
			}
		}
	}
}

// P2.2: strings and lists are read back, whatever follows.
func TestReadStrings(t *testing.T) {
	long := strings.Repeat("\xff\x00", 100)
	for _, l := range [][]string{{}, {""}, {"", ""}, {"a", "", "bc"}, {long, "", long}, make([]string, 200), slices.Repeat([]string{"x"}, 5000)} {
		for _, after := range []string{"", "\x00", "\x80", "x"} {
			r := codec.NewReader(codec.Texts(l...) + after)
			if got := r.Texts(); !slices.Equal(got, l) || r.Error() != api.OK || (r.End() == api.OK) != (after == "") {
				t.Errorf("%q is read as %q, %d", l, got, r.Error())
			}
			for _, s := range l {
				r := codec.NewReader(codec.Text(s) + after)
				if got := r.Text(); got != s || r.Error() != api.OK || (r.End() == api.OK) != (after == "") {
					t.Errorf("%q is read as %q, %d", s, got, r.Error())
				}
			}
		}
	}
}

// readers returns what each method reads, by the name of the method.
func readers() map[string]func(r *codec.Reader) bool {
	return map[string]func(r *codec.Reader) bool{
		"Uint":  func(r *codec.Reader) bool { return r.Uint() == 0 },
		"Int":   func(r *codec.Reader) bool { return r.Int() == 0 },
		"Text":  func(r *codec.Reader) bool { return r.Text() == "" },
		"Count": func(r *codec.Reader) bool { return r.Count(math.MaxInt) == 0 },
		"Texts": func(r *codec.Reader) bool { return len(r.Texts()) == 0 },
	}
}

// P2.2: bytes that are those of no number have the error ErrCorrupt and the result zero in every method.
func TestReadWrongNumbers(t *testing.T) {
	wrong := []string{"", "\x80", "\x80\x00", "\xff", "\xff\xff", "\x81\x80", "\x81\x80\x00", "\xac\x82\x00x",
		"\xff\xff\xff\xff\xff\xff\xff\xff\xff", "\xff\xff\xff\xff\xff\xff\xff\xff\xff\x02", "\xff\xff\xff\xff\xff\xff\xff\xff\xff\x00",
		"\x80\x80\x80\x80\x80\x80\x80\x80\x80\x02", "\x80\x80\x80\x80\x80\x80\x80\x80\x80\x80", "\x80\x80\x80\x80\x80\x80\x80\x80\x80\x80\x01",
		"\xff\xff\xff\xff\xff\xff\xff\xff\xff\x7f", "\xff\xff\xff\xff\xff\xff\xff\xff\xff\x81\x00", "\xff\xff\xff\xff\xff\xff\xff\xff\xff\x81\x01"}
	for _, s := range wrong {
		for name, zero := range readers() {
			r := codec.NewReader(s)
			if !zero(r) || r.Error() != api.ErrCorrupt || r.End() != api.ErrCorrupt {
				t.Errorf("%s of %x has error %d", name, s, r.Error())
			}
		}
	}
}

// P2.2: numbers from 2^63 to 2^64 - 1 are read by Int alone.
func TestReadGreatNumbers(t *testing.T) {
	for s, want := range map[string]int{
		"\x80\x80\x80\x80\x80\x80\x80\x80\x80\x01": 1 << 62,
		"\x81\x80\x80\x80\x80\x80\x80\x80\x80\x01": -1<<62 - 1,
		"\xfe\xff\xff\xff\xff\xff\xff\xff\xff\x01": math.MaxInt,
		"\xff\xff\xff\xff\xff\xff\xff\xff\xff\x01": math.MinInt,
	} {
		for name, zero := range readers() {
			r := codec.NewReader(s)
			if name != "Int" && (!zero(r) || r.Error() != api.ErrCorrupt) {
				t.Errorf("%s of %x has error %d", name, s, r.Error())
			}
		}
		r := codec.NewReader(s)
		if got := r.Int(); got != want || r.End() != api.OK {
			t.Errorf("Int of %x is %d, %d", s, got, r.End())
		}
	}
	r := codec.NewReader("\xff\xff\xff\xff\xff\xff\xff\xff\x7f")
	if r.Uint() != math.MaxInt || r.End() != api.OK {
		t.Error("2^63 - 1 is not read")
	}
}

// P2.2: strings and lists that end too early, with lengths up to the greatest.
func TestReadShortStrings(t *testing.T) {
	greatest := mustUint(t, math.MaxInt)
	for _, s := range []string{"\x01", "\x02a", "\x80\x01" + strings.Repeat("x", 127), greatest, greatest + "abc"} {
		for _, name := range []string{"Text", "Texts"} {
			r := codec.NewReader(s)
			if !readers()[name](r) || r.Error() != api.ErrCorrupt {
				t.Errorf("%s of %x has error %d", name, s, r.Error())
			}
		}
	}
	for _, s := range []string{"\x02\x00", "\x03\x01a\x01b", "\x01\x02a", "\x02\x01a\x80\x00", "\x02\x01a" + greatest, "\x01\xff\xff\xff\xff\xff\xff\xff\xff\xff\x01"} {
		r := codec.NewReader(s)
		if got := r.Texts(); len(got) != 0 || r.Error() != api.ErrCorrupt {
			t.Errorf("Texts of %x is %q, %d", s, got, r.Error())
		}
	}
}

// P2.2: Count accepts numbers up to most, and no others.
func TestCount(t *testing.T) {
	for _, x := range []struct{ n, most int }{{0, 0}, {0, 1}, {1, 1}, {7, 7}, {7, 8}, {300, 300}, {math.MaxInt, math.MaxInt}, {math.MaxInt - 1, math.MaxInt - 1}} {
		r := codec.NewReader(mustUint(t, x.n) + "\x05")
		if got := r.Count(x.most); got != x.n || r.Error() != api.OK || r.Uint() != 5 || r.End() != api.OK {
			t.Errorf("Count(%d) of %d is %d, %d", x.most, x.n, got, r.Error())
		}
	}
	for _, x := range []struct{ n, most int }{{1, 0}, {8, 7}, {301, 300}, {0, -1}, {5, -1}, {0, math.MinInt}, {math.MaxInt, math.MaxInt - 1}, {math.MaxInt, 0}} {
		r := codec.NewReader(mustUint(t, x.n) + "\x05")
		if got := r.Count(x.most); got != 0 || r.Error() != api.ErrCorrupt || r.Uint() != 0 {
			t.Errorf("Count(%d) of %d is %d, %d", x.most, x.n, got, r.Error())
		}
	}
}

// P2.2: values of all kinds are read one after the other, from the offset behind the one before.
func TestReadSequence(t *testing.T) {
	r := codec.NewReader(mustUint(t, 300) + codec.Int(-300) + codec.Text("abc") + codec.Texts("x", "", "yz") + mustUint(t, 9) + codec.Text("") + codec.Texts() + codec.Int(0))
	if r.Uint() != 300 || r.Int() != -300 || r.Text() != "abc" || !slices.Equal(r.Texts(), []string{"x", "", "yz"}) || r.Count(9) != 9 {
		t.Error("a value is wrong")
	}
	if r.Text() != "" || len(r.Texts()) != 0 || r.Int() != 0 || r.Error() != api.OK || r.End() != api.OK {
		t.Error("an empty value is wrong")
	}
	for name, zero := range readers() {
		r := codec.NewReader("\x05")
		r.Uint()
		if !zero(r) || r.Error() != api.ErrCorrupt {
			t.Errorf("%s reads behind the end", name)
		}
	}
}

// P2.2: after an error every method returns zero, and the first error stays, although bytes of values are left.
func TestErrorStays(t *testing.T) {
	values := mustUint(t, 1) + codec.Text("ab") + codec.Texts("x")
	for name, zero := range readers() {
		r := codec.NewReader(values)
		r.Fail(api.ErrDenied)
		if !zero(r) || r.Error() != api.ErrDenied || r.End() != api.ErrDenied {
			t.Errorf("%s reads after an error, or changes it to %d", name, r.Error())
		}
		r = codec.NewReader("\x80\x00" + values)
		r.Int()
		if !zero(r) || r.Error() != api.ErrCorrupt || r.Count(-1) != 0 {
			t.Errorf("%s reads after ErrCorrupt", name)
		}
		r = codec.NewReader("\x09" + values)
		r.Count(8)
		if !zero(r) || r.Error() != api.ErrCorrupt {
			t.Errorf("%s reads after a number that is too great", name)
		}
	}
}

// P2.3: Fail sets the first error, never OK; Error returns it; reading goes on only without one.
func TestFail(t *testing.T) {
	r := codec.NewReader("\x05\x06")
	r.Fail(api.OK)
	if r.Error() != api.OK || r.Uint() != 5 {
		t.Error("Fail(OK) is an error")
	}
	for e := api.ErrArg; e <= api.ErrFork; e++ {
		r := codec.NewReader("\x05")
		r.Fail(e)
		r.Fail(api.ErrArg)
		r.Fail(api.ErrFork)
		r.Fail(api.OK)
		if r.Error() != e || r.End() != e || r.Uint() != 0 {
			t.Errorf("the error is %d, not %d", r.Error(), e)
		}
	}
	r = codec.NewReader("")
	r.Uint()
	r.Fail(api.ErrType)
	if r.Error() != api.ErrCorrupt {
		t.Error("Fail has replaced an error")
	}
}

// P2.3: End asks for the end of the string, and does not change the reader.
func TestEnd(t *testing.T) {
	if r := codec.NewReader(""); r.End() != api.OK || r.Error() != api.OK {
		t.Error("the end of the empty string is not seen")
	}
	r := codec.NewReader("\x05\x06")
	if r.End() != api.ErrCorrupt || r.End() != api.ErrCorrupt || r.Error() != api.OK || r.Uint() != 5 {
		t.Error("End has changed the reader")
	}
	if r.End() != api.ErrCorrupt || r.Uint() != 6 || r.End() != api.OK || r.Error() != api.OK {
		t.Error("End has changed the reader")
	}
	r.Fail(api.ErrName)
	if r.End() != api.ErrName {
		t.Error("End does not return the error")
	}
}

// P2.4: what is read without an error, and written again, gives the bytes that were read, for all short strings.
func TestOneForm(t *testing.T) {
	check := func(s string, read func(r *codec.Reader) string) {
		r := codec.NewReader(s)
		again := read(r)
		if r.Error() == api.OK && (!strings.HasPrefix(s, again) || (r.End() == api.OK) != (s == again)) {
			t.Errorf("%x is read as the value of %x", s, again)
		}
	}
	all := func(s string) {
		check(s, func(r *codec.Reader) string { n, _ := codec.Uint(r.Uint()); return n })
		check(s, func(r *codec.Reader) string { n, _ := codec.Uint(r.Count(200)); return n })
		check(s, func(r *codec.Reader) string { return codec.Int(r.Int()) })
		check(s, func(r *codec.Reader) string { return codec.Text(r.Text()) })
		check(s, func(r *codec.Reader) string { return codec.Texts(r.Texts()...) })
	}
	for n := range 1 << 16 {
		all(string([]byte{byte(n >> 8), byte(n)}))
	}
	random := rand.New(rand.NewSource(2))
	for range 20000 {
		b := make([]byte, random.Intn(14))
		for i := range b {
			b[i] = []byte{0, 1, 2, 0x7f, 0x80, 0x81, 0xff, byte(random.Intn(256))}[random.Intn(8)]
		}
		all(string(b))
	}
}

// P2.4: different values of one kind have different bytes, and none is the beginning of another one.
func TestNoPrefix(t *testing.T) {
	prefixFree := func(kind string, forms map[string]bool) {
		sorted := make([]string, 0, len(forms))
		for s := range forms {
			sorted = append(sorted, s)
		}
		slices.Sort(sorted)
		for i := range len(sorted) - 1 {
			if strings.HasPrefix(sorted[i+1], sorted[i]) {
				t.Errorf("%s: %x is the beginning of %x", kind, sorted[i], sorted[i+1])
			}
		}
	}
	uints, ints, values := map[string]bool{}, map[string]bool{}, map[int]bool{}
	for _, n := range numbers() {
		values[n] = true
		ints[codec.Int(n)] = true
		if n >= 0 {
			uints[mustUint(t, n)] = true
		}
	}
	if len(ints) != len(values) {
		t.Error("two integers have the same bytes")
	}
	prefixFree("Uint", uints)
	prefixFree("Int", ints)
	lists := map[string]bool{}
	parts := []string{"", "a", "b", "ab", "\x00", "\x01a"}
	for _, a := range parts {
		lists[codec.Texts(a)] = true
		for _, b := range parts {
			lists[codec.Texts(a, b)] = true
		}
	}
	lists[codec.Texts()] = true
	if len(lists) != 1+len(parts)+len(parts)*len(parts) {
		t.Error("two lists have the same bytes")
	}
	prefixFree("Texts", lists)
}

// P1: every method ends on all bytes, in any order; a failure is a panic or too much memory.
func TestNoMethodPanics(t *testing.T) {
	random := rand.New(rand.NewSource(3))
	for range 20000 {
		b := make([]byte, random.Intn(30))
		random.Read(b)
		r := codec.NewReader(string(b))
		for r.Error() == api.OK {
			switch random.Intn(5) {
			case 0:
				r.Uint()
			case 1:
				r.Int()
			case 2:
				r.Text()
			case 3:
				r.Count(random.Intn(300) - 10)
			case 4:
				r.Texts()
			}
			r.End()
		}
	}
	r := codec.NewReader(mustUint(t, 1<<40) + strings.Repeat("\x00", 1<<16))
	if len(r.Texts()) != 0 || r.Error() != api.ErrCorrupt {
		t.Error("a list without its elements is read")
	}
}

// P2, P3: goroutines get the same results, and lists stay as they are.
func TestSharedUse(t *testing.T) {
	l := []string{"a", "", strings.Repeat("x", 200)}
	kept := slices.Clone(l)
	want := codec.Texts(l...)
	var all sync.WaitGroup
	for range 8 {
		all.Add(1)
		go func() {
			defer all.Done()
			for range 100 {
				r := codec.NewReader(codec.Texts(l...) + codec.Text(l[2]) + codec.Int(-7))
				if !slices.Equal(r.Texts(), kept) || r.Text() != kept[2] || r.Int() != -7 || r.End() != api.OK {
					t.Error("another value in a goroutine")
				}
			}
		}()
	}
	all.Wait()
	if !slices.Equal(l, kept) || codec.Texts(l...) != want {
		t.Error("Texts has changed its argument")
	}
}

// P3: results share no memory with arguments or with other results.
func TestResultsAreNew(t *testing.T) {
	l := []string{"a", "b"}
	bytes := codec.Texts(l...)
	l[0] = "changed"
	if bytes != codec.Texts("a", "b") {
		t.Error("the bytes have changed with the list")
	}
	r := codec.NewReader(bytes + bytes)
	first, second := r.Texts(), r.Texts()
	first[0] = "changed"
	first = append(first, "changed")
	if !slices.Equal(second, []string{"a", "b"}) || !slices.Equal(codec.NewReader(bytes).Texts(), []string{"a", "b"}) {
		t.Errorf("a result has changed with another one: %q", first)
	}
}
