// Package codec is layer 2: see shared/doc/02-codec.md.
package codec

import (
	"math"

	"modcert/api"
)

const (
	groupBits   = 7
	furtherFlag = 1 << groupBits
	lastGroup   = 64 / groupBits // the index of the group that has only one bit of a number
)

// Reader reads canonical bytes. After the first error every method returns zero.
type Reader struct {
	rest string // the bytes from the offset on
	err  api.Errno
}

// adder adds the bytes of a value.
type adder func(to []byte) []byte

// Uint returns the bytes of an integer that is not negative.
func Uint(n int) (string, api.Errno) {
	if n < 0 {
		return "", api.ErrRange
	}
	return written(number(uint64(n))), api.OK
}

// Int returns the bytes of an integer.
func Int(n int) string {
	doubled := 2 * uint64(n)
	if n < 0 {
		doubled = ^doubled // this is -2 n - 1, and does not overflow for the least n
	}
	return written(number(doubled))
}

// Text returns the bytes of a string.
func Text(s string) string {
	return written(text(s))
}

// Texts returns the bytes of a list of strings.
func Texts(l ...string) string {
	return written(number(uint64(len(l))), each(text, l...))
}

// written returns the bytes that adders add.
func written(adders ...adder) string {
	var all []byte
	for _, add := range adders {
		all = add(all)
	}
	return string(all)
}

func number(n uint64) adder {
	return func(to []byte) []byte {
		groups := n
		for ; groups >= furtherFlag; groups >>= groupBits {
			to = append(to, byte(groups)|furtherFlag)
		}
		return append(to, byte(groups))
	}
}

func text(s string) adder {
	return func(to []byte) []byte {
		return append(number(uint64(len(s)))(to), s...)
	}
}

// each adds all elements of a list, one after the other.
func each(element func(string) adder, l ...string) adder {
	return func(to []byte) []byte {
		for _, s := range l {
			to = element(s)(to)
		}
		return to
	}
}

// NewReader returns a reader of a string.
func NewReader(s string) *Reader {
	return &Reader{rest: s}
}

// Uint reads an integer that is not negative.
func (r *Reader) Uint() int {
	return r.Count(math.MaxInt)
}

// Int reads an integer.
func (r *Reader) Int() int {
	doubled := r.number()
	n := int(doubled / 2)
	if doubled%2 == 1 {
		return -n - 1
	}
	return n
}

// Text reads a string.
func (r *Reader) Text() string {
	size := r.Uint()
	if size > len(r.rest) {
		r.Fail(api.ErrCorrupt)
		return ""
	}
	s := r.rest[:size]
	r.rest = r.rest[size:]
	return s
}

// Count reads the number of elements of a list.
func (r *Reader) Count(most int) int {
	n := r.number()
	if n > math.MaxInt || int(n) > most {
		r.Fail(api.ErrCorrupt)
		return 0
	}
	return int(n)
}

// Texts reads a list of strings.
func (r *Reader) Texts() []string {
	// Each element has at least one byte, so a greater number is wrong in any case.
	return r.list(r.Count(len(r.rest)), r.Text)
}

// list reads a number of elements with a method of the reader.
func (r *Reader) list(count int, read func() string) []string {
	var l []string
	for len(l) < count {
		l = append(l, read())
		if r.err != api.OK {
			return nil
		}
	}
	return l
}

// number reads an unsigned number.
func (r *Reader) number() uint64 {
	if r.err != api.OK {
		return 0
	}
	var n uint64
	for i := range min(len(r.rest), lastGroup+1) {
		group := r.rest[i]
		if i > 0 && group == 0 || i == lastGroup && group > 1 {
			break
		}
		n |= uint64(group%furtherFlag) << (groupBits * i)
		if group < furtherFlag {
			r.rest = r.rest[i+1:]
			return n
		}
	}
	r.Fail(api.ErrCorrupt)
	return 0
}

// Fail makes an error the first one, if there is none.
func (r *Reader) Fail(e api.Errno) {
	if r.err == api.OK {
		r.err = e
	}
}

// Error returns the first error.
func (r *Reader) Error() api.Errno {
	return r.err
}

// End returns the first error, or ErrCorrupt if bytes are left.
func (r *Reader) End() api.Errno {
	if r.err == api.OK && r.rest != "" {
		return api.ErrCorrupt
	}
	return r.err
}
