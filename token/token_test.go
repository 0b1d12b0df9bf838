package token

import (
	"fmt"
	"math/big"
	"math/rand"
	"regexp"
	"slices"
	"strconv"
	"strings"
	"testing"

	"seisin/api"
)

// letters is what the random texts are made of: what the chapter names, its neighbours, and runes of each length.
var letters = []string{
	" ", "\t", "\"", "#", "\\", "x", "\\x", "\\\"", "\\\\", "\\x41", "0", "9", "a", "f", "g", "F", "n", "-",
	"\x00", "\n", "\r", "\x1f", "!", "~", "\x7f", "\u0080", "\u0085", "\u00a0", "é", "\u2003", "世", "\ufffc", "\ufffd", "\ufffe", "\U0001f600", "\U0010ffff",
	"\x80", "\xc3", "\xef\xbf", "\xff", "\xed\xa0\x80",
}

// someText tells a text of up to n letters, always the same ones for one source.
func someText(r *rand.Rand, n int) string {
	var b strings.Builder
	for range r.Intn(n + 1) {
		b.WriteString(letters[r.Intn(len(letters))])
	}
	return b.String()
}

// someLine tells a line in which words are likely, and now and then too many.
func someLine(r *rand.Rand) string {
	var b strings.Builder
	for range r.Intn(18) {
		switch r.Intn(40) {
		case 0:
			b.WriteString(someText(r, 3))
		case 1:
			b.WriteString(`"` + someText(r, 3) + `"`)
		case 2:
			b.WriteString(`#`)
		default:
			b.WriteString(Quote(someText(r, 3)))
		}
		if r.Intn(40) > 0 {
			b.WriteString([]string{" ", "\t", " \t "}[r.Intn(3)])
		}
	}
	return b.String()
}

var (
	plainWord  = regexp.MustCompile(`^[^ \t"#\x00-\x1f\x7f\x{fffd}]+`)
	quotedWord = regexp.MustCompile(`^"([^"\\\x00-\x1f\x7f\x{fffd}]|\\["\\]|\\x[0-9a-f]{2})*"`)
	escapeSign = regexp.MustCompile(`\\(["\\]|x..)`)
)

// unescaped tells what an escape says.
func unescaped(s string) string {
	if s[1] != 'x' {
		return s[1:]
	}
	n, _ := strconv.ParseUint(s[2:], 16, 8)
	return string([]byte{byte(n)})
}

// wordsBySigns tells a line's words in another way: word by word, by patterns.
func wordsBySigns(line string) ([]string, api.Errno) {
	if len(line) > 400 {
		return nil, api.ErrMany
	}
	var words []string
	for {
		line = strings.TrimLeft(line, " \t")
		if line == "" || line[0] == '#' {
			return words, api.OK
		}
		plain, quoted := plainWord.FindString(line), quotedWord.FindString(line)
		if plain == "" && line[0] != '"' {
			return nil, api.ErrForm
		}
		if len(words) == 12 {
			return nil, api.ErrMany
		}
		if plain == "" && quoted == "" {
			return nil, api.ErrForm
		}
		line = line[len(plain)+len(quoted):]
		if line != "" && line[0] != ' ' && line[0] != '\t' {
			return nil, api.ErrForm
		}
		if quoted != "" {
			plain = escapeSign.ReplaceAllStringFunc(quoted[1:len(quoted)-1], unescaped)
		}
		words = append(words, plain)
	}
}

// wantWords holds Words' answer against what it should be.
func wantWords(t *testing.T, line string, want ...string) {
	t.Helper()
	if got, e := Words(line); e != api.OK || !slices.Equal(got, want) {
		t.Errorf("Words(%q) = %q, %d; want %q", line, got, e, want)
	}
}

// wantError holds Words' answer against an error, beside which there is no word.
func wantError(t *testing.T, line string, want api.Errno) {
	t.Helper()
	if got, e := Words(line); e != want || len(got) != 0 {
		t.Errorf("Words(%q) = %q, %d; want the error %d", line, got, e, want)
	}
}

// P3.1: the lines of the chapter, and other ordinary ones.
func TestWordsOrdinary(t *testing.T) {
	wantWords(t, `write 3 "a b" # no`, "write", "3", "a b")
	wantWords(t, "")
	wantWords(t, " \t \t")
	wantWords(t, "#")
	wantWords(t, " # a b")
	wantWords(t, "a", "a")
	wantWords(t, " a\tb  c\t ", "a", "b", "c")
	wantWords(t, `""`, "")
	wantWords(t, `"" "a" ""`, "", "a", "")
	wantWords(t, `" # "`, " # ")
	wantWords(t, `a\b \ \x41`, `a\b`, `\`, `\x41`)
	wantWords(t, "a #b", "a")
	wantWords(t, `"a" #`, "a")
	wantWords(t, "é 世界 \U0001f600", "é", "世界", "\U0001f600")
	wantWords(t, `"é 世"`, "é 世")
	wantWords(t, "\u00a0\u0085\u2003", "\u00a0\u0085\u2003")
	wantWords(t, "-1 'a' $(b)", "-1", "'a'", "$(b)")
}

// P3.1: escapes say what they stand for.
func TestWordsEscapes(t *testing.T) {
	wantWords(t, `"\"" "\\" "\\\""`, `"`, `\`, `\"`)
	wantWords(t, `"\x41" "\x0a\x09" "\x22\x5c"`, "A", "\n\t", `"\`)
	wantWords(t, `"\xef\xbf\xbd" "\xff" "\xc3\xa9"`, "\ufffd", "\xff", "é")
	wantWords(t, `"\\x41" "\x5cx41"`, `\x41`, `\x41`)
	wantWords(t, `"\x411"`, "A1")
	for b := range 256 {
		wantWords(t, fmt.Sprintf(`"a\x%02xb"`, b), string([]byte{'a', byte(b), 'b'}))
	}
	for _, s := range []string{`"\x41\"`, `"\n"`, `"\a"`, `"\ "`, `"\é"`, `"\X41"`, `"\x4"`, `"\x"`, `"\x4g"`, `"\xg4"`, `"\x4F"`, `"\xF4"`, `"\x 4"`, `"\x4 "`, `"\x4é"`, `"\xé"`, `"\x4` + "\xff" + `"`, `"\` + "\ufffd" + `"`} {
		wantError(t, s, api.ErrForm)
	}
}

// P3.1: what each byte below 128, and some greater runes, are at each place of a line.
func TestWordsEachRune(t *testing.T) {
	for r := range rune(128) {
		s := string(r)
		control, blank := r < 32 || r == 127, r == ' ' || r == '\t'
		switch {
		case blank:
			wantWords(t, s)
			wantWords(t, "a"+s+"b", "a", "b")
		case r == '#':
			wantWords(t, s)
			wantWords(t, s+"b")
			wantError(t, "a"+s+"b", api.ErrForm)
		case control || r == '"':
			wantError(t, s, api.ErrForm)
			wantError(t, "a"+s+"b", api.ErrForm)
		default:
			wantWords(t, s, s)
			wantWords(t, "a"+s+"b", "a"+s+"b")
		}
		switch {
		case control || r == '"' || r == '\\':
			wantError(t, `"a`+s+`b"`, api.ErrForm)
		default:
			wantWords(t, `"a`+s+`b"`, "a"+s+"b")
		}
		switch {
		case blank:
			wantWords(t, `"a"`+s+`b`, "a", "b")
		default:
			wantError(t, `"a"`+s+`b`, api.ErrForm)
		}
		wantWords(t, "a # "+s, "a")
	}
	for _, s := range []string{"\u0080", "\u009f", "\u00a0", "\u00ad", "\u2028", "\u3000", "\ufeff", "\ufffc", "\ufffe", "\U0010ffff"} {
		wantWords(t, s+" a"+s+`b "`+s+`"`, s, "a"+s+"b", s)
		wantError(t, `"a"`+s, api.ErrForm)
	}
	for _, s := range []string{"\ufffd", "\xff", "\x80", "\xc3", "\xe4\xb8", "\xed\xa0\x80", "\xc0\x80", "\xf4\x90\x80\x80"} {
		wantError(t, s, api.ErrForm)
		wantError(t, "a"+s, api.ErrForm)
		wantError(t, `"`+s+`"`, api.ErrForm)
		wantError(t, `"a"`+s, api.ErrForm)
		wantWords(t, "a #"+s, "a")
	}
}

// P3.1: a quoted word that doesn't end, and words with nothing in between.
func TestWordsThatDoNotEnd(t *testing.T) {
	for _, s := range []string{`"`, `"a`, `"a `, `"a # b`, `"\`, `"\"`, `"\x`, `"\x4`, `"\x41`, `a "`, `"" "`, "\"a\n\"", `a"b"`, `a"`, `"a"b`, `"a""b"`, `"a"#`, `a#`, `""""`, "a\n", "a\nb", "\n", `"a"\x20`} {
		wantError(t, s, api.ErrForm)
	}
}

// P3.1: how many bytes a line may have, whatever they are.
func TestWordsLongLine(t *testing.T) {
	for _, s := range []string{" ", "#", "a", "\xff", "\""} {
		wantError(t, strings.Repeat(s, 401), api.ErrMany)
	}
	wantError(t, strings.Repeat(" a", 200)+" ", api.ErrMany)
	wantError(t, strings.Repeat("é", 200)+" ", api.ErrMany)
	wantError(t, `"`+strings.Repeat(`\x41`, 100), api.ErrMany)
	wantError(t, strings.Repeat("a", 1<<24), api.ErrMany)
	wantError(t, "\n"+strings.Repeat("a", 400), api.ErrMany)
	wantWords(t, strings.Repeat(" ", 400))
	wantWords(t, strings.Repeat("#", 400))
	wantWords(t, strings.Repeat("a", 400), strings.Repeat("a", 400))
	wantWords(t, strings.Repeat("é", 200), strings.Repeat("é", 200))
	wantWords(t, `"`+strings.Repeat("b", 398)+`"`, strings.Repeat("b", 398))
	wantError(t, strings.Repeat("\xff", 400), api.ErrForm)
	wantError(t, strings.Repeat(`"`, 400), api.ErrForm)
}

// P3.1: how many words a line may have, and that the first wrong thing from the left is told.
func TestWordsTooMany(t *testing.T) {
	twelve := strings.Split("a b c d e f g h i j k l", " ")
	line := strings.Join(twelve, " ")
	for _, s := range []string{"", " ", "\t \t", " #", " # m n", " #\x01", " #\xff\""} {
		wantWords(t, line+s, twelve...)
	}
	for _, s := range []string{" m", " m\n", " m#", " \"", " \"m", ` ""`, ` "\n"`, " m n", " m \x01", " \\", " \u00a0"} {
		wantError(t, line+s, api.ErrMany)
	}
	for _, s := range []string{"#", "\"", "\x01", "\xff", " \x01", " \xff", " \x7f", " \n m", "\n m", " \ufffd m"} {
		wantError(t, line+s, api.ErrForm)
	}
	wantError(t, "a# "+line+" m", api.ErrForm)
	wantError(t, line+" m \"", api.ErrMany)
	wantWords(t, strings.Repeat(`"" `, 12), make([]string, 12)...)
	wantError(t, strings.Repeat(`"" `, 13), api.ErrMany)
}

// P3.1: random lines, held against words that are told by patterns.
func TestWordsRandom(t *testing.T) {
	r := rand.New(rand.NewSource(31))
	told := map[api.Errno]int{}
	for range 100_000 {
		line := someText(r, 12)
		if r.Intn(2) == 0 {
			line = someLine(r)
		}
		got, e := Words(line)
		want, wantE := wordsBySigns(line)
		if e != wantE || !slices.Equal(got, want) {
			t.Fatalf("Words(%q) = %q, %d; want %q, %d", line, got, e, want, wantE)
		}
		told[e]++
	}
	for _, e := range []api.Errno{api.OK, api.ErrForm, api.ErrMany} {
		if told[e] < 100 {
			t.Errorf("only %d lines told %d", told[e], e)
		}
	}
}

// P3.2: what is plain, and how what isn't is quoted.
func TestQuoteOrdinary(t *testing.T) {
	for _, s := range []string{"a", "write", "a\\b", "\\", "\\x41", "-1", "é", "世界", "\u00a0", "\u0080", "\ufffc", "\U0001f600", strings.Repeat("a", 500)} {
		if !Plain(s) || Quote(s) != s {
			t.Errorf("%q: Plain is %t, Quote is %q", s, Plain(s), Quote(s))
		}
	}
	for s, want := range map[string]string{
		"":                       `""`,
		" ":                      `" "`,
		"a b":                    `"a b"`,
		" a":                     `" a"`,
		"a ":                     `"a "`,
		"\t":                     `"\x09"`,
		"a\tb":                   `"a\x09b"`,
		"#":                      `"#"`,
		"a#":                     `"a#"`,
		`"`:                      `"\""`,
		`a"b`:                    `"a\"b"`,
		`\ `:                     `"\\ "`,
		`\"`:                     `"\\\""`,
		"\x00\x1f\x7f":           `"\x00\x1f\x7f"`,
		"\r\n":                   `"\x0d\x0a"`,
		"\ufffd":                 `"\xef\xbf\xbd"`,
		"a\ufffdb":               `"a\xef\xbf\xbdb"`,
		"\xff":                   `"\xff"`,
		"é\xc3世\xe4\xb8":         `"é\xc3世\xe4\xb8"`,
		"\xef\xbf":               `"\xef\xbf"`,
		"\xed\xa0\x80":           `"\xed\xa0\x80"`,
		"\xff\ufffd\xff":         `"\xff\xef\xbf\xbd\xff"`,
		"é \u0085\U0010ffff":     "\"é \u0085\U0010ffff\"",
		strings.Repeat("\n", 99): `"` + strings.Repeat(`\x0a`, 99) + `"`,
	} {
		if Plain(s) || Quote(s) != want {
			t.Errorf("%q: Plain is %t, Quote is %q; want %q", s, Plain(s), Quote(s), want)
		}
	}
}

// P3.2: each byte, alone, behind another one, and behind a blank.
func TestQuoteEachByte(t *testing.T) {
	for b := range 256 {
		s := string([]byte{byte(b)})
		escaped := s
		switch {
		case s == `"` || s == `\`:
			escaped = `\` + s
		case b < 32 || b >= 127:
			escaped = fmt.Sprintf(`\x%02x`, b)
		}
		isPlain := escaped == s && s != " " && s != "#" || s == `\`
		if Plain(s) != isPlain || Plain("a"+s) != isPlain || Plain(s+"a") != isPlain {
			t.Errorf("%q: Plain is %t, with an a ahead %t, with one behind %t", s, Plain(s), Plain("a"+s), Plain(s+"a"))
		}
		if got, want := Quote(" "+s), `" `+escaped+`"`; got != want {
			t.Errorf("%q: %q; want %q", " "+s, got, want)
		}
		want := `"a` + escaped + `"`
		if isPlain {
			want = "a" + s
		}
		if got := Quote("a" + s); got != want {
			t.Errorf("%q: %q; want %q", "a"+s, got, want)
		}
	}
}

// P3.2: plain is what Words tells as one word, just as it stands.
func TestPlainIsAWord(t *testing.T) {
	r := rand.New(rand.NewSource(32))
	plains := 0
	for range 50_000 {
		s := someText(r, 4)
		words, e := Words(s)
		want := e == api.OK && slices.Equal(words, []string{s})
		if Plain(s) != want {
			t.Fatalf("%q: Plain is %t; its words are %q, %d", s, Plain(s), words, e)
		}
		if want {
			plains++
		}
	}
	if plains < 1000 {
		t.Errorf("only %d plain words", plains)
	}
}

// P3.3: numbers, at the edges too.
func TestNumberOrdinary(t *testing.T) {
	for s, want := range map[string]int64{
		"0": 0, "1": 1, "9": 9, "10": 10, "12": 12, "-1": -1, "-9": -9, "-10": -10, "100": 100,
		"999999999999999999":   999999999999999999,
		"-999999999999999999":  -999999999999999999,
		"1000000000000000000":  1000000000000000000,
		"4611686018427387903":  1<<62 - 1,
		"4611686018427387904":  1 << 62,
		"-4611686018427387903": -1<<62 + 1,
		"-4611686018427387904": -1 << 62,
	} {
		if n, e := Number(s); n != want || e != api.OK {
			t.Errorf("Number(%q) = %d, %d; want %d", s, n, e, want)
		}
	}
}

// P3.3: what is no number.
func TestNumberWrong(t *testing.T) {
	for _, s := range []string{
		"", "-", "--1", "-0", "00", "01", "-01", "-00", "0-1", "1-", "+1", "+0", "+", " 1", "1 ", "1\n", "\t", "a", "0x1", "1e1", "1.0", "1_0", "_1", "1,0", "٣", "１", "\xff", "1\x00",
		"4611686018427387905", "-4611686018427387905", "9223372036854775807", "-9223372036854775808", "9223372036854775808", "9999999999999999999", "-9999999999999999999",
		"10000000000000000000", "18446744073709551615", "18446744073709551616", "18446744073709551617", "-18446744073709551617", "23058430092136939520",
		"0000000000000000000", "0000000000000000001", "00000000000000000000", strings.Repeat("0", 100), strings.Repeat("1", 100), strings.Repeat("1", 1<<20), "-" + strings.Repeat("9", 1<<20),
	} {
		if n, e := Number(s); n != 0 || e != api.ErrForm {
			t.Errorf("Number(%.40q) = %d, %d; want the error %d", s, n, e, api.ErrForm)
		}
	}
}

// P3.3: random rows of digits, held against the library's numbers of any length.
func TestNumberRandom(t *testing.T) {
	r := rand.New(rand.NewSource(33))
	least, greatest := big.NewInt(-1<<62), big.NewInt(1<<62)
	for range 100_000 {
		b := make([]byte, r.Intn(22))
		for at := range b {
			b[at] = "0123456789-"[r.Intn(11-min(at, 1))]
		}
		s := string(b)
		n, ok := new(big.Int).SetString(s, 10)
		ok = ok && n.String() == s && n.Cmp(least) >= 0 && n.Cmp(greatest) <= 0
		got, e := Number(s)
		if ok != (e == api.OK) || ok && got != n.Int64() || !ok && (got != 0 || e != api.ErrForm) {
			t.Fatalf("Number(%q) = %d, %d", s, got, e)
		}
	}
	for range 100_000 {
		n := int64(r.Uint64()) >> r.Intn(64)
		got, e := Number(strconv.FormatInt(n, 10))
		if ok := n >= -1<<62 && n <= 1<<62; ok != (e == api.OK) || ok && got != n {
			t.Fatalf("Number of %d = %d, %d", n, got, e)
		}
	}
}

// P3.4: what is quoted is one word again, if it isn't too long.
func TestQuotedIsOneWord(t *testing.T) {
	r := rand.New(rand.NewSource(34))
	long := 0
	for range 30_000 {
		s := someText(r, 1<<r.Intn(9))
		q := Quote(s)
		if len(q) > 400 {
			wantError(t, q, api.ErrMany)
			long++
			continue
		}
		wantWords(t, q, s)
	}
	if long < 1000 {
		t.Errorf("only %d texts too long", long)
	}
	wantWords(t, Quote(strings.Repeat("a", 400)), strings.Repeat("a", 400))
	wantWords(t, Quote(strings.Repeat(" ", 398)), strings.Repeat(" ", 398))
	wantError(t, Quote(strings.Repeat(" ", 399)), api.ErrMany)
	wantWords(t, Quote(strings.Repeat("\xff", 99)), strings.Repeat("\xff", 99))
	wantError(t, Quote(strings.Repeat("\xff", 100)), api.ErrMany)
}

// P3.4: blanks between words, however many and whichever, and what is behind a #, change nothing.
func TestBlanksBetweenWords(t *testing.T) {
	r := rand.New(rand.NewSource(35))
	blanks := func(least int) string {
		b := make([]byte, least+r.Intn(4))
		for at := range b {
			b[at] = " \t"[r.Intn(2)]
		}
		return string(b)
	}
	for range 20_000 {
		var words []string
		line := blanks(0)
		for at := range r.Intn(13) {
			s := someText(r, 3)
			line += blanks(min(at, 1)) + Quote(s)
			words = append(words, s)
		}
		if r.Intn(2) == 0 {
			line += blanks(1) + "#" + someText(r, 4)
		}
		if len(line) <= 400 {
			wantWords(t, line, words...)
		}
	}
}

// R1: long texts end, and are answered in full.
func TestLongTexts(t *testing.T) {
	const n = 1 << 22
	if s := strings.Repeat("a", n); !Plain(s) || Quote(s) != s {
		t.Error("a long plain word")
	}
	if q := Quote(strings.Repeat("\xff", n)); len(q) != 4*n+2 {
		t.Errorf("a long text of wrong bytes has %d bytes", len(q))
	}
	if Plain(strings.Repeat("a", n) + " ") {
		t.Error("a long text with a blank is plain")
	}
}

// R3, R4: the same line answers the same again, in a list of its own.
func TestWordsAnswersAnew(t *testing.T) {
	line := `a "b c" d`
	first, _ := Words(line)
	first[0], first[1] = "x", "y"
	wantWords(t, line, "a", "b c", "d")
	wantError(t, line+"#", api.ErrForm)
	wantWords(t, line, "a", "b c", "d")
	if !slices.Equal(first, []string{"x", "y", "d"}) {
		t.Errorf("an answer was changed by a later one: %q", first)
	}
}

// P3.1, P3.2, P3.4: whatever the line is.
func FuzzWords(f *testing.F) {
	for _, s := range []string{`write 3 "a b" # no`, `"\x41\"`, `a"b"`, "a b c d e f g h i j k l m", "\xff\ufffd"} {
		f.Add(s)
	}
	f.Fuzz(func(t *testing.T, s string) {
		got, e := Words(s)
		want, wantE := wordsBySigns(s)
		if e != wantE || !slices.Equal(got, want) {
			t.Fatalf("Words(%q) = %q, %d; want %q, %d", s, got, e, want, wantE)
		}
		if q := Quote(s); len(q) <= 400 {
			wantWords(t, q, s)
		}
	})
}
