package lexer

import (
	"strconv"
	"strings"

	"modcert/api"
)

// Quote returns the literal of a string.
func Quote(s string) string {
	literal := make([]byte, 0, len(s)+2)
	literal = append(literal, '"')
	for i := range len(s) {
		literal = append(literal, escape(s[i])...)
	}
	return string(append(literal, '"'))
}

// escape returns the form of a byte in a literal.
func escape(c byte) string {
	switch {
	case c == '\n':
		return `\n`
	case c == '"' || c == '\\':
		return string([]byte{'\\', c})
	case c < ' ' || c > '~':
		return string([]byte{'\\', 'x', digits[c>>4], digits[c&15]})
	}
	return string([]byte{c})
}

// IsName reports whether a string is a name of a value, a field or a variable.
func IsName(s string) bool {
	return isWord(s, api.TokenName)
}

// IsType reports whether a string is a name of a type.
func IsType(s string) bool {
	return isWord(s, api.TokenType)
}

// IsPath reports whether a string is the path of a module.
func IsPath(s string) bool {
	_, err := Major(s)
	return err == api.OK
}

// Major returns the major version of a path.
func Major(path string) (int, api.Errno) {
	if len(path) > api.MaxPath {
		return 0, api.ErrName
	}
	segments := strings.Split(path, "/")
	for _, segment := range segments {
		if !isSegment(segment) {
			return 0, api.ErrName
		}
	}
	major, ok := majorVersion(segments[len(segments)-1])
	if len(segments) < 2 || !ok {
		return 0, api.ErrName
	}
	return major, api.OK
}

// majorVersion returns the number of the last segment of a path.
func majorVersion(segment string) (int, bool) {
	decimal, ok := strings.CutPrefix(segment, "v")
	if !ok {
		return 0, false
	}
	n, err := strconv.Atoi(decimal)
	// A number has one decimal form, so another one has leading zeros.
	if err != nil || n > api.MaxVersion || strconv.Itoa(n) != decimal {
		return 0, false
	}
	return n, true
}

// isSegment reports whether a string is a segment of a path.
func isSegment(s string) bool {
	return isWord(s, api.TokenName) && span(s, isSegmentByte) == len(s)
}

// isWord reports whether a string is a single word of a kind of tokens.
func isWord(s string, kind int) bool {
	if s == "" || !isLetter(s[0]) || span(s, isWordByte) < len(s) {
		return false
	}
	found, ok := wordKind(s)
	return ok && found == kind
}

func isKeyword(s string) bool {
	switch s {
	case "and", "any", "as", "bool", "deprecated", "else", "export", "false", "fn", "fold",
		"from", "if", "import", "in", "int", "length", "let", "list", "match", "module",
		"none", "not", "or", "text", "then", "true", "type", "use":
		return true
	}
	return false
}

// span returns the number of bytes at the beginning of a string that a function accepts.
func span(s string, accepts func(c byte) bool) int {
	for i := range len(s) {
		if !accepts(s[i]) {
			return i
		}
	}
	return len(s)
}

func isBlank(c byte) bool {
	return c == ' ' || c == '\t' || c == '\n' || c == '\r'
}

func isSmall(c byte) bool {
	return 'a' <= c && c <= 'z'
}

func isLetter(c byte) bool {
	return isSmall(c) || 'A' <= c && c <= 'Z'
}

func isDigit(c byte) bool {
	return '0' <= c && c <= '9'
}

func isWordByte(c byte) bool {
	return isLetter(c) || isDigit(c) || c == '_'
}

// isSegmentByte reports whether a byte can stand in a segment of a path.
func isSegmentByte(c byte) bool {
	return isSmall(c) || isDigit(c)
}
