package tests

import (
	"math"
	"reflect"
	"slices"
	"strings"
	"testing"

	"loop.example/g00352/impl"
)

type numbers struct {
	low  int64
	high int64
}

var characters = []numbers{{9, 10}, {13, 13}, {32, 0xD7FF}, {0xE000, 0xFFFD}, {0x10000, 0x10FFFF}}

var nameBeginnings = []numbers{
	{':', ':'}, {'A', 'Z'}, {'_', '_'}, {'a', 'z'}, {0xC0, 0xD6}, {0xD8, 0xF6}, {0xF8, 0x2FF},
	{0x370, 0x37D}, {0x37F, 0x1FFF}, {0x200C, 0x200D}, {0x2070, 0x218F}, {0x2C00, 0x2FEF},
	{0x3001, 0xD7FF}, {0xF900, 0xFDCF}, {0xFDF0, 0xFFFD}, {0x10000, 0xEFFFF},
}

// Ranges that touch stand as one here, so that one below and one above each is outside.
var nameGoings = []numbers{
	{'-', '.'}, {'0', ':'}, {'A', 'Z'}, {'_', '_'}, {'a', 'z'}, {0xB7, 0xB7}, {0xC0, 0xD6},
	{0xD8, 0xF6}, {0xF8, 0x37D}, {0x37F, 0x1FFF}, {0x200C, 0x200D}, {0x203F, 0x2040},
	{0x2070, 0x218F}, {0x2C00, 0x2FEF}, {0x3001, 0xD7FF}, {0xF900, 0xFDCF}, {0xFDF0, 0xFFFD},
	{0x10000, 0xEFFFF},
}

func inside(n int64, l []numbers) bool {
	return slices.ContainsFunc(l, func(r numbers) bool { return r.low <= n && n <= r.high })
}

func checkRanges(t *testing.T, what string, ask func(int64) bool, l []numbers) {
	t.Helper()
	for _, r := range l {
		for n, want := range map[int64]bool{r.low - 1: false, r.low: true, r.high: true, r.high + 1: false} {
			if ask(n) != want {
				t.Errorf("%s of %#x: got %v", what, n, !want)
			}
		}
	}
	for n := int64(-300); n < 0x110300; n++ {
		if ask(n) != inside(n, l) {
			t.Fatalf("%s of %#x: got %v", what, n, ask(n))
		}
	}
	// Each of these is a right number if it is cut to 32 bits, or its sign is lost.
	for _, n := range []int64{math.MinInt64, math.MinInt64 + 'a', -'a', -0x10000, 1<<32 + 'a', 1<<40 + 0x3001, math.MaxInt64} {
		if ask(n) {
			t.Errorf("%s of %d: got true", what, n)
		}
	}
}

func TestCharRight(t *testing.T) {
	checkRanges(t, "CharRight", impl.CharRight, characters)
}

func TestNameStart(t *testing.T) {
	checkRanges(t, "NameStart", impl.NameStart, nameBeginnings)
}

func TestNamePart(t *testing.T) {
	checkRanges(t, "NamePart", impl.NamePart, nameGoings)
}

func checkRunes(t *testing.T, text string, want impl.RunesOut) {
	t.Helper()
	got := impl.Runes(text)
	if got.Code != want.Code || got.At != want.At || !slices.Equal(got.Runes, want.Runes) {
		t.Errorf("Runes of %.40q (%d bytes): got %.200v, want %.200v", text, len(text), got, want)
	}
}

func TestRunes(t *testing.T) {
	for text, want := range map[string][]int64{
		"":                                 nil,
		"a":                                {97},
		"a\xc3\xa9":                        {97, 233},
		"\t\n\r ":                          {9, 10, 13, 32},
		"\r\n":                             {13, 10},
		"<a b='&lt;'/>":                    {'<', 'a', ' ', 'b', '=', '\'', '&', 'l', 't', ';', '\'', '/', '>'},
		"\x7f\xc2\x80":                     {0x7F, 0x80},
		"\xdf\xbf\xe0\xa0\x80":             {0x7FF, 0x800},
		"\xed\x9f\xbf\xee\x80\x80":         {0xD7FF, 0xE000},
		"\xef\xbf\xbd\xf0\x90\x80\x80":     {0xFFFD, 0x10000},
		"\xf4\x8f\xbf\xbf":                 {0x10FFFF},
		"\xef\xbb\xbfa":                    {0xFEFF, 'a'},
		"x\xef\xbf\xbdy\xef\xbf\xbd":       {'x', 0xFFFD, 'y', 0xFFFD},
		"\xf0\x9f\xbf\xbe\xf0\x9f\xbf\xbf": {0x1FFFE, 0x1FFFF},
	} {
		checkRunes(t, text, impl.RunesOut{Runes: want})
	}
}

func TestRunesOfWrongBytes(t *testing.T) {
	for _, wrong := range []string{
		"\x00", "\x08", "\x0b", "\x0c", "\x0e", "\x1f",
		"\x80", "\xbf", "\xc0", "\xc1", "\xf5", "\xf8", "\xfc", "\xfe", "\xff",
		"\xc3", "\xe2", "\xe2\x82", "\xf0", "\xf0\x90", "\xf0\x90\x80",
		"\xef", "\xef\xbf", "\xef\xbfx", "\xefx",
		"\xc3(", "\xe2(\xa1", "\xe2\x82(", "\xf0\x90\x80(", "\xc3\xc3\xa9", "\xe2\x82\xc3\xa9",
		"\xc0\x80", "\xc1\xbf", "\xc0\xaf", "\xe0\x80\x80", "\xe0\x9f\xbf", "\xf0\x80\x80\x80", "\xf0\x8f\xbf\xbf",
		"\xed\xa0\x80", "\xed\xbf\xbf", "\xed\xa0\xbd\xed\xb8\x80",
		"\xef\xbf\xbe", "\xef\xbf\xbf",
		"\xf4\x90\x80\x80", "\xf7\xbf\xbf\xbf", "\xf8\x88\x80\x80\x80",
	} {
		checkRunes(t, wrong, impl.RunesOut{Code: impl.ErrSyntax})
		checkRunes(t, "a\xc3\xa9"+wrong, impl.RunesOut{At: 3, Code: impl.ErrSyntax})
		checkRunes(t, "\xef\xbf\xbd"+wrong+"z\xff", impl.RunesOut{At: 3, Code: impl.ErrSyntax})
	}
}

// wholeAt: how many bytes the character's UTF-8 has with which the text begins (0, if with none).
func wholeAt(text string) int {
	for size := 1; size <= 4 && size <= len(text); size++ {
		for _, n := range numbersOf(text[:size]) {
			if inside(n, characters) && string(rune(n)) == text[:size] {
				return size
			}
		}
	}
	return 0
}

// numbersOf: the number that the low bits of these bytes come to, with each size of a first byte's share.
func numbersOf(piece string) []int64 {
	var out []int64
	for _, mask := range []byte{0x7F, 0x1F, 0x0F, 0x07} {
		n := int64(piece[0] & mask)
		for i := 1; i < len(piece); i++ {
			n = n<<6 | int64(piece[i]&0x3F)
		}
		out = append(out, n)
	}
	return out
}

func TestRunesOfAllShortTexts(t *testing.T) {
	check := func(text string) {
		at := 0
		for at < len(text) && wholeAt(text[at:]) > 0 {
			at += wholeAt(text[at:])
		}
		if at < len(text) {
			checkRunes(t, text, impl.RunesOut{At: int64(at), Code: impl.ErrSyntax})
			return
		}
		var want []int64
		for _, r := range []rune(text) {
			want = append(want, int64(r))
		}
		checkRunes(t, text, impl.RunesOut{Runes: want})
	}
	some := []byte{0x0A, 0x1F, 'a', 0x80, 0x8F, 0x90, 0x9F, 0xA0, 0xBD, 0xBF, 0xC2, 0xE0, 0xED, 0xEF, 0xF0, 0xF4, 0xFF}
	for a := range 256 {
		check(string([]byte{byte(a)}))
		for b := range 256 {
			check(string([]byte{byte(a), byte(b)}))
			for _, c := range some {
				check(string([]byte{byte(a), byte(b), c}))
			}
		}
	}
	for _, a := range []byte{'a', 0xC3, 0xE1, 0xEF, 0xF0, 0xF1, 0xF4, 0xF5} {
		for _, b := range some {
			for _, c := range some {
				for _, d := range some {
					check(string([]byte{a, b, c, d}))
				}
			}
		}
	}
}

func TestRunesLimit(t *testing.T) {
	letters := slices.Repeat([]int64{'a'}, 4000)
	checkRunes(t, strings.Repeat("a", 4000), impl.RunesOut{Runes: letters})
	checkRunes(t, strings.Repeat("a", 4001), impl.RunesOut{Code: impl.ErrSize})
	checkRunes(t, strings.Repeat("a", 100000), impl.RunesOut{Code: impl.ErrSize})
	checkRunes(t, strings.Repeat("\u00e9", 2000), impl.RunesOut{Runes: slices.Repeat([]int64{0xE9}, 2000)})
	checkRunes(t, strings.Repeat("\u00e9", 2000)+"a", impl.RunesOut{Code: impl.ErrSize})
	checkRunes(t, strings.Repeat("a", 3999)+"\xff", impl.RunesOut{At: 3999, Code: impl.ErrSyntax})
	checkRunes(t, strings.Repeat("a", 3998)+"\xe2\x82", impl.RunesOut{At: 3998, Code: impl.ErrSyntax})
	checkRunes(t, "\xff"+strings.Repeat("a", 4000), impl.RunesOut{Code: impl.ErrSize})
	checkRunes(t, strings.Repeat("\xff", 4001), impl.RunesOut{Code: impl.ErrSize})
}

func TestRunesAreNew(t *testing.T) {
	first := impl.Runes("abc").Runes
	second := impl.Runes("abc").Runes
	first[0] = 1
	if !slices.Equal(second, []int64{'a', 'b', 'c'}) || !slices.Equal(impl.Runes("abc").Runes, second) {
		t.Errorf("two answers share memory: %v", second)
	}
}

func checkUtf(t *testing.T, l []int64, want string) {
	t.Helper()
	kept := slices.Clone(l)
	if got := impl.Utf(l); got != want {
		t.Errorf("Utf of %d items, %.80v: got %.80q, want %.80q", len(l), l, got, want)
	}
	if !reflect.DeepEqual(l, kept) {
		t.Errorf("Utf changed what it was given: %v", kept)
	}
}

func TestUtf(t *testing.T) {
	checkUtf(t, nil, "")
	checkUtf(t, []int64{}, "")
	checkUtf(t, []int64{97}, "a")
	checkUtf(t, []int64{9, 10, 13, 32}, "\t\n\r ")
	checkUtf(t, []int64{0x7F, 0x80, 0x7FF, 0x800}, "\x7f\xc2\x80\xdf\xbf\xe0\xa0\x80")
	checkUtf(t, []int64{0xD7FF, 0xE000, 0xFFFD, 0x10000, 0x10FFFF}, "\xed\x9f\xbf\xee\x80\x80\xef\xbf\xbd\xf0\x90\x80\x80\xf4\x8f\xbf\xbf")
}

func TestUtfOfWrongNumbers(t *testing.T) {
	for _, wrong := range []int64{
		0, 8, 11, 12, 14, 31, 0xD800, 0xDBFF, 0xDC00, 0xDFFF, 0xFFFE, 0xFFFF, 0x110000,
		-1, -97, math.MinInt64, math.MaxInt64, 1<<32 + 97, 1 << 32, math.MaxInt32, math.MinInt32,
	} {
		checkUtf(t, []int64{wrong}, "")
		checkUtf(t, []int64{wrong, 97}, "")
		checkUtf(t, []int64{97, 0x20AC, wrong}, "")
	}
}

func TestUtfLimit(t *testing.T) {
	checkUtf(t, slices.Repeat([]int64{'a'}, 400), strings.Repeat("a", 400))
	checkUtf(t, slices.Repeat([]int64{'a'}, 401), "")
	checkUtf(t, slices.Repeat([]int64{0x10FFFF}, 400), strings.Repeat("\U0010FFFF", 400))
	checkUtf(t, slices.Repeat([]int64{0x10FFFF}, 401), "")
	checkUtf(t, append(slices.Repeat([]int64{'a'}, 399), -1), "")
	checkUtf(t, slices.Repeat([]int64{'a'}, 5000), "")
}

// Promise 1: characters come back from their UTF-8, and a text from its characters.
func TestCharactersComeBack(t *testing.T) {
	var l []int64
	back := func() {
		text := impl.Utf(l)
		out := impl.Runes(text)
		if out.Code != impl.OK || out.At != 0 || !slices.Equal(out.Runes, l) {
			t.Fatalf("characters %#x to %#x do not come back: code %d at %d", l[0], l[len(l)-1], out.Code, out.At)
		}
		if impl.Utf(out.Runes) != text {
			t.Fatalf("the text of %#x to %#x does not come back", l[0], l[len(l)-1])
		}
		l = l[:0]
	}
	for _, r := range characters {
		for n := r.low; n <= r.high; n++ {
			l = append(l, n)
			if len(l) == 400 || n == r.high {
				back()
			}
		}
	}
}

func TestTextsComeBack(t *testing.T) {
	for _, text := range []string{
		"", "a", "\r\n", "<a>\u00e9\u20ac</a>", "\uFFFD", "\U0001F600\t\U0010FFFF", "\ufeff\u200d",
		strings.Repeat("\u20ac", 400),
	} {
		out := impl.Runes(text)
		if out.Code != impl.OK || impl.Utf(out.Runes) != text {
			t.Errorf("%.40q does not come back: code %d, %.40q", text, out.Code, impl.Utf(out.Runes))
		}
	}
}

func TestEnds(t *testing.T) {
	for text, want := range map[string]string{
		"":               "",
		"a":              "a",
		"\n":             "\n",
		"\r":             "\n",
		"\r\n":           "\n",
		"\n\r":           "\n\n",
		"\r\r":           "\n\n",
		"\r\r\n":         "\n\n",
		"\r\n\r":         "\n\n",
		"\r\n\n":         "\n\n",
		"\r\n\r\n":       "\n\n",
		"\r\r\n\n\r":     "\n\n\n\n",
		"a\r\nb\rc\n":    "a\nb\nc\n",
		"\u00e9\r\u20ac": "\u00e9\n\u20ac",
		"\xff\r\n\x80\r": "\xff\n\x80\n",
		"\xc3\r\xa9":     "\xc3\n\xa9",
		"\x00\x85 \t":    "\x00\x85 \t",
	} {
		if got := impl.Ends(text); got != want {
			t.Errorf("Ends of %q: got %q, want %q", text, got, want)
		}
		if got := impl.Ends(want); got != want {
			t.Errorf("Ends of %q: got %q, want it as it was", want, got)
		}
	}
}

func TestEndsLimit(t *testing.T) {
	for text, want := range map[string]string{
		strings.Repeat("a", 4000):          strings.Repeat("a", 4000),
		strings.Repeat("a", 4001):          "",
		strings.Repeat("\r", 4000):         strings.Repeat("\n", 4000),
		strings.Repeat("\r\n", 2000):       strings.Repeat("\n", 2000),
		strings.Repeat("\r\n", 2000) + "a": "",
		strings.Repeat("\r\n", 2001):       "",
		strings.Repeat("\xff", 4000):       strings.Repeat("\xff", 4000),
	} {
		if got := impl.Ends(text); got != want {
			t.Errorf("Ends of %.20q (%d bytes): got %d bytes, want %d", text, len(text), len(got), len(want))
		}
	}
}

func TestNameRight(t *testing.T) {
	for _, name := range []string{
		"a", "Z", "_", ":", "a:b", "::", "a.b", "a-b", "a1", "xml", "xmlns:x", "a\u00b7", "a\u0300", "a\u203f\u2040",
		"\u00c0", "\u00e9", "\ufffd", "\U00010000", "\U000effff", "\u3001\u0370",
		strings.Repeat("a", 59), strings.Repeat("a", 60), strings.Repeat("\u3001", 20), strings.Repeat("\U00010000", 15),
	} {
		if !impl.NameRight(name) {
			t.Errorf("NameRight of %q (%d bytes): got false", name, len(name))
		}
	}
}

func TestNameRightOfNone(t *testing.T) {
	for _, text := range []string{
		"", "1", "1a", "-a", ".a", "-", ".", "\u00b7", "\u0300a", "\u203fa", "\u036f",
		" ", " a", "a ", "a b", "a\n", "a/", "a>", "<a", "a=b", "a\u00d7", "a\u00f7", "\u00d7", "a\u037e", "a\u2041",
		"\u2190", "a\u2190", "\u206f", "a\u206f", "\U000f0000", "a\U0010ffff", "\u3000", "a\u3000", "\ue000",
		"\xff", "a\xff", "a\xc3", "\xc3", "\xef\xbf", "a\xef\xbf", "\xc1\xa1", "a\xe2\x80", "\xed\xa0\x80", "a\xef\xbf\xbe", "a\x00",
		strings.Repeat("a", 61), strings.Repeat("\u3001", 20) + "a", strings.Repeat("\U00010000", 15) + "a",
		strings.Repeat("a", 59) + "\u00e9", strings.Repeat("\u00e9", 31),
		strings.Repeat("a", 4000), strings.Repeat("a", 4001),
	} {
		if impl.NameRight(text) {
			t.Errorf("NameRight of %.80q (%d bytes): got true", text, len(text))
		}
	}
}

func TestNameRightGoesByItsCharacters(t *testing.T) {
	for _, r := range characters {
		for n := r.low; n <= r.high; n++ {
			one := string(rune(n))
			if got := impl.NameRight(one); got != inside(n, nameBeginnings) {
				t.Fatalf("NameRight of %q: got %v", one, got)
			}
			for _, text := range []string{"a" + one, "a" + one + "a"} {
				if got := impl.NameRight(text); got != inside(n, nameGoings) {
					t.Fatalf("NameRight of %q: got %v", text, got)
				}
			}
		}
	}
}
