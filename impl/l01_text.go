package impl

import (
	"strings"
	"unicode/utf8"
)

// Constants, see chapter 1.
const (
	OK        = 0
	ErrForm   = 1
	ErrSize   = 2
	ErrSyntax = 3
	ErrShort  = 4
	ErrNone   = 5
	ErrThere  = 6
	ErrFull   = 7
	ErrDeep   = 8
	ErrLoop   = 9
	ErrEnd    = 10
	MaxBytes  = 4000
	MaxList   = 400
	MaxOut    = 4000
	MaxDeep   = 30
)

const maxName = 60

// RunesOut is a thing of chapter 2.
type RunesOut struct {
	Runes []int64
	At    int64
	Code  int64
}

type span struct {
	low  int64
	high int64
}

func (s span) has(n int64) bool {
	return s.low <= n && n <= s.high
}

var nameStarts = [16]span{
	{':', ':'},
	{'A', 'Z'},
	{'_', '_'},
	{'a', 'z'},
	{0xC0, 0xD6},
	{0xD8, 0xF6},
	{0xF8, 0x2FF},
	{0x370, 0x37D},
	{0x37F, 0x1FFF},
	{0x200C, 0x200D},
	{0x2070, 0x218F},
	{0x2C00, 0x2FEF},
	{0x3001, 0xD7FF},
	{0xF900, 0xFDCF},
	{0xFDF0, 0xFFFD},
	{0x10000, 0xEFFFF},
}

// What a name goes on with, beside that with which it may begin.
var nameParts = [5]span{
	{'-', '.'},
	{'0', '9'},
	{0xB7, 0xB7},
	{0x300, 0x36F},
	{0x203F, 0x2040},
}

// CharRight: see chapter 2.
func CharRight(n int64) bool {
	switch {
	case n == 9, n == 10, n == 13:
		return true
	case n < 32, n > 0x10FFFF:
		return false
	}
	return n <= 0xD7FF || n >= 0xE000 && n <= 0xFFFD || n >= 0x10000
}

// NameStart: see chapter 2.
func NameStart(n int64) bool {
	for _, s := range nameStarts {
		if s.has(n) {
			return true
		}
	}
	return false
}

// NamePart: see chapter 2.
func NamePart(n int64) bool {
	for _, s := range nameParts {
		if s.has(n) {
			return true
		}
	}
	return NameStart(n)
}

// Runes: see chapter 2.
func Runes(text string) RunesOut {
	if len(text) > MaxBytes {
		return RunesOut{Code: ErrSize}
	}
	var runes []int64
	for at, r := range text {
		if broken(text[at:], r) || !CharRight(int64(r)) {
			return RunesOut{At: int64(at), Code: ErrSyntax}
		}
		runes = append(runes, int64(r))
	}
	return RunesOut{Runes: runes}
}

// A range over a text tells bytes that are no UTF-8 as 0xFFFD, which is a
// character too: only the bytes that stand there tell one from the other.
func broken(rest string, r rune) bool {
	return r == utf8.RuneError && !strings.HasPrefix(rest, "\uFFFD")
}

// Utf: see chapter 2.
func Utf(l []int64) string {
	if len(l) > MaxList {
		return ""
	}
	var text []byte
	for _, n := range l {
		if !CharRight(n) {
			return ""
		}
		text = utf8.AppendRune(text, rune(n))
	}
	// With the limits as they are, MaxList keeps it below this one; the
	// document names both, and one may be changed without the other.
	if len(text) > MaxBytes {
		return ""
	}
	return string(text)
}

// Ends: see chapter 2.
func Ends(text string) string {
	if len(text) > MaxBytes {
		return ""
	}
	// The pairs go first, so that the 13 of one is not taken for a line's end
	// of its own.
	text = strings.ReplaceAll(text, "\r\n", "\n")
	return strings.ReplaceAll(text, "\r", "\n")
}

// NameRight: see chapter 2.
func NameRight(text string) bool {
	if text == "" || len(text) > maxName {
		return false
	}
	out := Runes(text)
	if out.Code != OK || !NameStart(out.Runes[0]) {
		return false
	}
	for _, n := range out.Runes[1:] {
		if !NamePart(n) {
			return false
		}
	}
	return true
}
