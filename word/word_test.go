package word

import (
	"errors"
	"math"
	"regexp"
	"slices"
	"strconv"
	"strings"
	"testing"
	"unsafe"

	"pastern/api"
)

func isName(t string, at int) api.Word { return api.Word{Kind: api.WName, Text: t, At: at} }

func isNum(n int64, at int) api.Word { return api.Word{Kind: api.WNum, N: n, At: at} }

func isText(t string, at int) api.Word { return api.Word{Kind: api.WText, Text: t, At: at} }

func isGreat(t string, at int) api.Word { return api.Word{Kind: api.WGreat, Text: t, At: at} }

func isSign(t string, at int) api.Word { return api.Word{Kind: api.WSign, Text: t, At: at} }

// allSigns stands as the chapter has it, not as the program does.
func allSigns() []string {
	return strings.Fields("( ) [ ] : | , + ! . - * = != < <=")
}

// cuts: s is cut into these words, and into no others.
func cuts(t *testing.T, why, s string, want ...api.Word) {
	t.Helper()
	if got, err := Cut(s); err != nil || !slices.Equal(got, want) {
		t.Errorf("%s: Cut(%.80q) = %+v, %v, not %+v", why, s, got, err, want)
	}
}

// fails: s is refused with that error, and no word is told beside it.
func fails(t *testing.T, why, s string, want api.Errno) {
	t.Helper()
	got, err := Cut(s)
	var number api.Errno
	if !errors.As(err, &number) || number != want || len(got) != 0 {
		t.Errorf("%s: Cut(%.80q) = %d words, %v, not %v", why, s, len(got), err, want)
	}
}

func TestNoWords(t *testing.T) {
	for _, s := range []string{"", " ", "  ", strings.Repeat(" ", 1000)} {
		cuts(t, "P7.1: blanks alone", s)
	}
}

func TestWholePattern(t *testing.T) {
	cuts(t, "P7.1: a pattern", `SEQ(a:buy|sell+[(a.x <= -5)], !b:c) WITHIN 10 BY k ANY`,
		isGreat("SEQ", 0), isSign("(", 3), isName("a", 4), isSign(":", 5), isName("buy", 6), isSign("|", 9),
		isName("sell", 10), isSign("+", 14), isSign("[", 15), isSign("(", 16), isName("a", 17), isSign(".", 18),
		isName("x", 19), isSign("<=", 21), isNum(-5, 24), isSign(")", 26), isSign("]", 27), isSign(",", 28),
		isSign("!", 30), isName("b", 31), isSign(":", 32), isName("c", 33), isSign(")", 34), isGreat("WITHIN", 36),
		isNum(10, 43), isGreat("BY", 46), isName("k", 49), isGreat("ANY", 51))
	cuts(t, "P7.1: a condition", `(NOT (a.item != "h \"a\" \\y"))`,
		isSign("(", 0), isGreat("NOT", 1), isSign("(", 5), isName("a", 6), isSign(".", 7), isName("item", 8),
		isSign("!=", 13), isText(`h "a" \y`, 16), isSign(")", 29), isSign(")", 30))
}

func TestBlanksBetween(t *testing.T) {
	cuts(t, "P7.1: the example", "a.b", isName("a", 0), isSign(".", 1), isName("b", 2))
	cuts(t, "P7.1: blanks at both ends", "  a  .   b  ", isName("a", 2), isSign(".", 5), isName("b", 9))
	cuts(t, "P7.1: a blank parts a name", "ab cd", isName("ab", 0), isName("cd", 3))
	cuts(t, "P7.1: a blank parts a great word", "AND OR", isGreat("AND", 0), isGreat("OR", 4))
	cuts(t, "P7.1: a blank parts a number", "1 2", isNum(1, 0), isNum(2, 2))
	cuts(t, "P7.1: a blank parts a sign", "< =! =", isSign("<", 0), isSign("=", 2), isSign("!", 3), isSign("=", 5))
	cuts(t, "P7.1: a blank parts texts", `"a" "b"`, isText("a", 0), isText("b", 4))
}

func TestNoBlanksBetween(t *testing.T) {
	cuts(t, "P7.1: kinds part by themselves", `aB1c"d"E"f"2-3G`,
		isName("a", 0), isGreat("B", 1), isNum(1, 2), isName("c", 3), isText("d", 4), isGreat("E", 7),
		isText("f", 8), isNum(2, 11), isNum(-3, 12), isGreat("G", 14))
	cuts(t, "P7.1: texts side by side", `"a""b"`, isText("a", 0), isText("b", 3))
}

// TestEachByteAlone: what a byte is, if nothing stands beside it.
func TestEachByteAlone(t *testing.T) {
	for i := range 256 {
		s := string([]byte{byte(i)})
		switch {
		case s == " ":
			cuts(t, "P7.1: a blank", s)
		case i >= 'a' && i <= 'z':
			cuts(t, "P7.1: a letter", s, isName(s, 0))
		case i >= 'A' && i <= 'Z':
			cuts(t, "P7.1: a great letter", s, isGreat(s, 0))
		case i >= '0' && i <= '9':
			cuts(t, "P7.1: a digit", s, isNum(int64(i-'0'), 0))
		case slices.Contains(allSigns(), s):
			cuts(t, "P7.1: a sign", s, isSign(s, 0))
		default:
			fails(t, "P7.1: another byte", s, api.ErrWord)
		}
	}
}

func TestOtherBytesAmongWords(t *testing.T) {
	for _, bad := range []string{"\t", "\n", "\r", "\x00", "\x7f", "\xa0", "\xff", "é", "\u00a0", "#", ">", "/", "'", "`", "_", "\\", "{", "}", ";", "&", "@", "$", "%", "^", "~", "?"} {
		for _, s := range []string{bad + "a", "a" + bad, "a" + bad + "b", "A" + bad + "B", "1" + bad + "2", "( " + bad + " )", `"a"` + bad, " " + bad} {
			fails(t, "P7.1: a byte that is none of a word", s, api.ErrWord)
		}
	}
}

func TestNamesAndGreatWordsByLength(t *testing.T) {
	for n := 1; n <= 3*api.MaxName; n++ {
		small, great := strings.Repeat("z", n), strings.Repeat("Z", n)
		if n > api.MaxName {
			fails(t, "P7.1: a long name", small, api.ErrLarge)
			fails(t, "P7.1: a long great word", great, api.ErrLarge)
			fails(t, "P7.1: a long name among others", "a ("+small+") b", api.ErrLarge)
			fails(t, "P7.1: a long great word among others", "a "+great+"(b", api.ErrLarge)
			continue
		}
		cuts(t, "P7.1: a name", small, isName(small, 0))
		cuts(t, "P7.1: a great word", great, isGreat(great, 0))
		cuts(t, "P7.1: one beside the other", small+great+small, isName(small, 0), isGreat(great, n), isName(small, 2*n))
	}
	cuts(t, "P7.1: all letters", "abcdefgh ijklmnop qrstuvwx yz", isName("abcdefgh", 0), isName("ijklmnop", 9), isName("qrstuvwx", 18), isName("yz", 27))
	cuts(t, "P7.1: all great letters", "ABCDEFGH IJKLMNOP QRSTUVWX YZ", isGreat("ABCDEFGH", 0), isGreat("IJKLMNOP", 9), isGreat("QRSTUVWX", 18), isGreat("YZ", 27))
}

func TestNumbers(t *testing.T) {
	for s, n := range map[string]int64{
		"0": 0, "7": 7, "10": 10, "1234567890": 1234567890, "-1": -1, "-0": 0, "00": 0, "007": 7, "-007": -7,
		"9223372036854775806": math.MaxInt64 - 1, "9223372036854775807": math.MaxInt64,
		"-9223372036854775807": math.MinInt64 + 1, "-9223372036854775808": math.MinInt64,
		"0009223372036854775807": math.MaxInt64, "-0009223372036854775808": math.MinInt64,
		strings.Repeat("0", 5000) + "5": 5, "-" + strings.Repeat("0", 5000): 0,
	} {
		cuts(t, "P7.1: a number", s, isNum(n, 0))
		cuts(t, "P7.1: a number among others", " ("+s+")", isSign("(", 1), isNum(n, 2), isSign(")", 2+len(s)))
	}
	for _, s := range []string{
		"9223372036854775808", "-9223372036854775809", "18446744073709551616", "18446744073709551617",
		"-18446744073709551615", "10000000000000000000", "00009223372036854775808", strings.Repeat("9", 5000), "-" + strings.Repeat("1", 5000),
	} {
		fails(t, "P7.1: no int64", s, api.ErrLarge)
		fails(t, "P7.1: no int64 among others", "a + "+s+" b", api.ErrLarge)
	}
}

func TestMinus(t *testing.T) {
	cuts(t, "P7.1: a sign alone", "-", isSign("-", 0))
	cuts(t, "P7.1: a sign at the end", "5-", isNum(5, 0), isSign("-", 1))
	cuts(t, "P7.1: a digit, but not right behind", "- 5", isSign("-", 0), isNum(5, 2))
	cuts(t, "P7.1: a digit right behind", "a-5", isName("a", 0), isNum(-5, 1))
	cuts(t, "P7.1: behind a number too", "1-2", isNum(1, 0), isNum(-2, 1))
	cuts(t, "P7.1: a sign between", "1 - 2", isNum(1, 0), isSign("-", 2), isNum(2, 4))
	cuts(t, "P7.1: two of them", "--5", isSign("-", 0), isNum(-5, 1))
	cuts(t, "P7.1: three of them", "1---", isNum(1, 0), isSign("-", 1), isSign("-", 2), isSign("-", 3))
	cuts(t, "P7.1: a letter behind", "-a", isSign("-", 0), isName("a", 1))
	cuts(t, "P7.1: a text behind", `-"1"`, isSign("-", 0), isText("1", 1))
	cuts(t, "P7.1: a plus is no part of a number", "+5", isSign("+", 0), isNum(5, 1))
	cuts(t, "P7.1: a point is no part of a number", "1.5", isNum(1, 0), isSign(".", 1), isNum(5, 2))
	cuts(t, "P7.1: numbers are decimal", "0x", isNum(0, 0), isName("x", 1))
	fails(t, "P7.1: nothing but digits in a number", "1_0", api.ErrWord)
}

func TestSignsAreTheLongest(t *testing.T) {
	all := allSigns()
	for _, a := range all {
		for _, b := range all {
			cuts(t, "P7.1: signs with a blank between", a+" "+b, isSign(a, 0), isSign(b, len(a)+1))
			if !slices.Contains(all, a+b[:1]) {
				cuts(t, "P7.1: signs side by side", a+b, isSign(a, 0), isSign(b, len(a)))
			}
		}
	}
	cuts(t, "P7.1: the longest", "!=", isSign("!=", 0))
	cuts(t, "P7.1: the longest", "<=", isSign("<=", 0))
	cuts(t, "P7.1: the longest from the left", "<==", isSign("<=", 0), isSign("=", 2))
	cuts(t, "P7.1: the longest from the left", "!!==", isSign("!", 0), isSign("!=", 1), isSign("=", 3))
	cuts(t, "P7.1: the longest from the left", "==<<=", isSign("=", 0), isSign("=", 1), isSign("<", 2), isSign("<=", 3))
	fails(t, "P7.1: no sign", "=>", api.ErrWord)
	fails(t, "P7.1: no sign", "<>", api.ErrWord)
}

func TestEachByteInAText(t *testing.T) {
	for i := range 256 {
		b := string([]byte{byte(i)})
		for _, around := range [][2]string{{"", ""}, {"x", ""}, {"", "x"}, {"x ", " x"}} {
			s := `"` + around[0] + b + around[1] + `"`
			escaped := `"` + around[0] + `\` + b + around[1] + `"`
			if b == `"` || b == `\` {
				fails(t, "P7.1: it must stand behind a \\", s, api.ErrWord)
				cuts(t, "P7.1: it stands behind a \\", escaped, isText(around[0]+b+around[1], 0))
				continue
			}
			fails(t, "P7.1: it must not stand behind a \\", escaped, api.ErrWord)
			if i < 32 || i > 126 {
				fails(t, "P7.1: a byte that is none of a text", s, api.ErrWord)
				continue
			}
			cuts(t, "P7.1: a byte of a text", s, isText(around[0]+b+around[1], 0))
		}
	}
}

func TestTextsByLength(t *testing.T) {
	for n := range 3 * api.MaxText {
		for _, unit := range [][2]string{{"x", "x"}, {" ", " "}, {`\"`, `"`}, {`\\`, `\`}} {
			s := `"` + strings.Repeat(unit[0], n) + `"`
			if n > api.MaxText {
				fails(t, "P7.1: a long text", s, api.ErrLarge)
				fails(t, "P7.1: a long text among others", "a = "+s+" b", api.ErrLarge)
				continue
			}
			cuts(t, "P7.1: a text", s, isText(strings.Repeat(unit[1], n), 0))
			cuts(t, "P7.1: a text among others", "a"+s+"b", isName("a", 0), isText(strings.Repeat(unit[1], n), 1), isName("b", 1+len(s)))
		}
	}
}

func TestTextsThatDontEnd(t *testing.T) {
	for _, s := range []string{`"`, `"a`, `a "b`, `"a" "`, `"\`, `"a\`, `"\"`, `"a\"`, `"\\\"`, `"\\\`, `"""`, `"a\n"`, `"\x41"`, "\"a\nb\"", `"a` + "\x7f\"", `"é"`} {
		fails(t, "P7.1: a text that doesn't end", s, api.ErrWord)
	}
	for n := range 3 * api.MaxText {
		long := `"` + strings.Repeat("x", n)
		fails(t, "P7.1: what doesn't end is no text, however long", long, api.ErrWord)
		fails(t, "P7.1: what doesn't end is no text, however long", long+"\n\"", api.ErrWord)
		fails(t, "P7.1: what doesn't end is no text, however long", long+`\n"`, api.ErrWord)
	}
}

func TestSoManyWords(t *testing.T) {
	for _, unit := range []string{"a ", "A(", `"" `, "-1", "<=", "a1A", " . "} {
		per := len(must(t, unit))
		for _, n := range []int{0, 1, 100, api.MaxWords/per - 1, api.MaxWords / per} {
			if got := must(t, strings.Repeat(unit, n)); len(got) != n*per {
				t.Errorf("P7.1: %d times %q: %d words", n, unit, len(got))
			}
		}
		for _, n := range []int{api.MaxWords/per + 1, api.MaxWords/per + 2, 10 * api.MaxWords} {
			fails(t, "P7.1: more words than may be", strings.Repeat(unit, n), api.ErrLarge)
		}
	}
	full := strings.Repeat("a ", api.MaxWords)
	if got := must(t, "  "+full+"     "); len(got) != api.MaxWords || got[api.MaxWords-1] != isName("a", 2*api.MaxWords) {
		t.Errorf("P7.1: as many words as may be: %d", len(got))
	}
	fails(t, "P7.1: one more word", full+")", api.ErrLarge)
	fails(t, "P7.1: one more word", full+`"b"`, api.ErrLarge)
	fails(t, "P7.1: a byte of no word isn't one more", full+"#", api.ErrWord)
	fails(t, "P7.1: what doesn't end isn't one more", full+`"b`, api.ErrWord)
	fails(t, "P7.1: one more word, then a byte of none", full+"b #", api.ErrLarge)
	fails(t, "P7.1: one more word, then what doesn't end", full+`b "`, api.ErrLarge)
	fails(t, "P7.1: a byte of no word, then many words", "# "+full+full, api.ErrWord)
}

func must(t *testing.T, s string) []api.Word {
	t.Helper()
	got, err := Cut(s)
	if err != nil {
		t.Fatalf("P7.1: Cut(%.80q): %v", s, err)
	}
	return got
}

func TestFirstErrorCounts(t *testing.T) {
	large := []string{"abcdefghi", "ABCDEFGHI", "9223372036854775808", `"12345678901234567"`}
	none := []string{"#", "\t", "\xff", `"a\n"`, "\"\x00\""}
	for _, l := range large {
		for _, n := range none {
			fails(t, "P7.1: the first error", l+" "+n, api.ErrLarge)
			fails(t, "P7.1: the first error", "a ("+l+n, api.ErrLarge)
			fails(t, "P7.1: the first error", n+" "+l, api.ErrWord)
			fails(t, "P7.1: the first error", "a ("+n+l, api.ErrWord)
		}
	}
}

func TestAnswersAreNewMemory(t *testing.T) {
	s := `abc ABC "abc" "a\"" <= 12`
	first, second := must(t, s), must(t, s)
	want := slices.Clone(first)
	for i := range first[:cap(first)] {
		first[:cap(first)][i] = isName("spoilt", -1)
	}
	if !slices.Equal(second, want) || !slices.Equal(must(t, s), want) {
		t.Error("P7.1: two answers share memory")
	}
	low := uintptr(unsafe.Pointer(unsafe.StringData(s)))
	for _, w := range second {
		at := uintptr(unsafe.Pointer(unsafe.StringData(w.Text)))
		if w.Text != "" && low <= at && at < low+uintptr(len(s)) {
			t.Errorf("P7.1: %+v lies in the text that was handed in", w)
		}
	}
}

func TestWalkMayBeLeftAndGoneThroughAgain(t *testing.T) {
	s := `a.b <= "c" -5 #`
	want := []api.Word{isName("a", 0), isSign(".", 1), isName("b", 2), isSign("<=", 4), isText("c", 7), isNum(-5, 11)}
	walk := words(s)
	for n := range len(want) + 2 {
		count := 0
		for w, err := range walk {
			if count == n {
				break
			}
			if count == len(want) && (err != api.ErrWord || w != api.Word{}) || count < len(want) && (err != nil || w != want[count]) {
				t.Errorf("P7.1: the walk gives %+v, %v at %d", w, err, count)
			}
			count++
			for range walk {
				break
			}
		}
		if count != n {
			t.Errorf("P7.1: left behind %d words, not %d", count, n)
		}
	}
}

// TestLargeOnes: calls come back from whatever is within the bounds.
func TestLargeOnes(t *testing.T) {
	const n = 1 << 22
	for s, want := range map[string]api.Errno{
		"a":  api.ErrLarge,
		"A":  api.ErrLarge,
		"1":  api.ErrLarge,
		"(":  api.ErrLarge,
		"a ": api.ErrLarge,
		`"`:  api.ErrLarge,
		`\`:  api.ErrWord,
		"\n": api.ErrWord,
	} {
		fails(t, "P7.1: a large one", strings.Repeat(s, n), want)
	}
	cuts(t, "P7.1: a large number of blanks", strings.Repeat(" ", n)+"a", isName("a", n))
	cuts(t, "P7.1: a large number of digits", strings.Repeat("0", n)+"1", isNum(1, 0))
	fails(t, "P7.1: a large text", `"`+strings.Repeat("x", n)+`"`, api.ErrLarge)
	fails(t, "P7.1: a large text", `"`+strings.Repeat(`\\`, n)+`"`, api.ErrLarge)
	fails(t, "P7.1: a large text that doesn't end", `"`+strings.Repeat(`\"`, n), api.ErrWord)
}

// A draw: numbers that look like chance, the same ones each time.
type draw uint64

func (d *draw) below(n int) int {
	*d = *d*6364136223846793005 + 1442695040888963407
	return int(uint64(*d) >> 33 % uint64(n))
}

func (d *draw) text() string {
	pieces := append(allSigns(), " ", " ", " ", "a", "price", "zz", "A", "AND", "0", "7", "-1", "922337203685477580", "8",
		`"`, `"`, `"`, `\`, `\"`, `\\`, `""`, `"hay"`, `"a b"`, `"\\"`, "xxxxxxx", `"xxxxxxxxxxxxxxxx`, "XXXXX")
	var out strings.Builder
	for range d.below(12) {
		out.WriteString(pieces[d.below(len(pieces))])
		if d.below(200) == 0 {
			out.WriteByte(byte(d.below(256)))
		}
	}
	return out.String()
}

// The chapter's words as an expression: what a word is, its limits aside.
var plain = regexp.MustCompile(`^(?:([a-z]+)|([A-Z]+)|(-?[0-9]+)|"((?:[ !#-\[\]-~]|\\["\\])*)"|(!=|<=|[()\[\]:|,+!.*=<-]))`)

func plainWord(s string) (api.Word, int, api.Errno) {
	m := plain.FindStringSubmatch(s)
	if m == nil {
		return api.Word{}, 0, api.ErrWord
	}
	switch {
	case m[1] != "":
		return api.Word{Kind: api.WName, Text: m[1]}, len(m[0]), tooLong(m[1], api.MaxName)
	case m[2] != "":
		return api.Word{Kind: api.WGreat, Text: m[2]}, len(m[0]), tooLong(m[2], 8)
	case m[3] != "":
		n, err := strconv.ParseInt(m[3], 10, 64)
		if err != nil {
			return api.Word{}, 0, api.ErrLarge
		}
		return api.Word{Kind: api.WNum, N: n}, len(m[0]), 0
	case m[5] != "":
		return api.Word{Kind: api.WSign, Text: m[5]}, len(m[0]), 0
	}
	t := strings.NewReplacer(`\"`, `"`, `\\`, `\`).Replace(m[4])
	return api.Word{Kind: api.WText, Text: t}, len(m[0]), tooLong(t, api.MaxText)
}

func tooLong(s string, most int) api.Errno {
	if len(s) > most {
		return api.ErrLarge
	}
	return 0
}

func plainCut(s string) ([]api.Word, api.Errno) {
	var out []api.Word
	for at := 0; at < len(s); {
		if s[at] == ' ' {
			at++
			continue
		}
		w, n, errno := plainWord(s[at:])
		if errno != 0 {
			return nil, errno
		}
		w.At = at
		out = append(out, w)
		at += n
	}
	return out, 0
}

// shown: a word as it may stand in a text.
func shown(w api.Word) string {
	switch w.Kind {
	case api.WNum:
		return strconv.FormatInt(w.N, 10)
	case api.WText:
		return `"` + strings.NewReplacer(`"`, `\"`, `\`, `\\`).Replace(w.Text) + `"`
	}
	return w.Text
}

func TestManyTexts(t *testing.T) {
	d, taken := draw(7), 0
	for range 20000 {
		s := d.text()
		want, errno := plainCut(s)
		if errno != 0 {
			fails(t, "P7.1: a draw", s, errno)
			continue
		}
		taken++
		cuts(t, "P7.1: a draw", s, want...)
	}
	if taken < 4000 || taken > 16000 {
		t.Errorf("%d of 20000 draws are words: not a fair test", taken)
	}
}

// TestTextsAreMadeOfWords: the words of a text, laid at their places with
// blanks between, are that text (a number but for its zeros ahead).
func TestTextsAreMadeOfWords(t *testing.T) {
	d := draw(72)
	for range 20000 {
		s := d.text()
		l, err := Cut(s)
		if err != nil {
			continue
		}
		end := 0
		for i, w := range l {
			next := len(s)
			if i+1 < len(l) {
				next = l[i+1].At
			}
			if w.At < end || w.At >= next || strings.Trim(s[end:w.At], " ") != "" {
				t.Fatalf("P7.2: %q: %+v stands where it doesn't", s, w)
			}
			piece := strings.TrimRight(s[w.At:next], " ")
			if w.Kind == api.WNum {
				n, err := strconv.ParseInt(piece, 10, 64)
				if err != nil || n != w.N || w.Text != "" {
					t.Fatalf("P7.2: %q: %+v isn't %q", s, w, piece)
				}
			} else if piece != shown(w) || w.N != 0 {
				t.Fatalf("P7.2: %q: %+v isn't %q", s, w, piece)
			}
			end = w.At + len(piece)
		}
		if strings.Trim(s[end:], " ") != "" {
			t.Fatalf("P7.2: %q: not all of it is words", s)
		}
	}
}

// TestWordsAreReadAsTheyAreShown: any words, written with a blank between, are
// these words again.
func TestWordsAreReadAsTheyAreShown(t *testing.T) {
	d := draw(73)
	for range 2000 {
		var s strings.Builder
		var want []api.Word
		for range d.below(20) {
			w := d.word()
			w.At = s.Len()
			want = append(want, w)
			s.WriteString(shown(w) + strings.Repeat(" ", 1+d.below(3)))
		}
		cuts(t, "P7.2: words with blanks between", s.String(), want...)
	}
}

func (d *draw) word() api.Word {
	run := func(low, high byte, least, most int) string {
		var out []byte
		for range least + d.below(most-least+1) {
			out = append(out, low+byte(d.below(int(high-low)+1)))
		}
		return string(out)
	}
	switch d.below(5) {
	case 0:
		return isName(run('a', 'z', 1, api.MaxName), 0)
	case 1:
		return isGreat(run('A', 'Z', 1, 8), 0)
	case 2:
		return isNum(int64(uint64(d.below(1<<31))<<33|uint64(d.below(1<<31)))>>d.below(64), 0)
	case 3:
		return isText(run(32, 126, 0, api.MaxText), 0)
	}
	all := allSigns()
	return isSign(all[d.below(len(all))], 0)
}
