package lex_test

import (
	"math"
	"math/big"
	"math/rand"
	"regexp"
	"slices"
	"strings"
	"testing"

	"vertex/api"
	"vertex/lex"
)

// nameBytes are the bytes of a name as the chapter lists them.
const nameBytes = "ABCDEFGHIJKLMNOPQRSTUVWXYZabcdefghijklmnopqrstuvwxyz0123456789!\"#$%&(),.;?@_'`{}~"

// language is the chapter's table of words that stand alone.
var language = map[int][]string{
	api.WMax:     {"max", "maximize", "maximise", "maximum"},
	api.WMin:     {"min", "minimize", "minimise", "minimum"},
	api.WSubject: {"st", "s.t.", "st."},
	api.WBounds:  {"bounds", "bound"},
	api.WWhole:   {"general", "generals", "gen", "integer", "integers", "int"},
	api.WBinary:  {"binary", "binaries", "bin"},
	api.WFree:    {"free"},
	api.WInf:     {"infinity", "inf"},
	api.WEnd:     {"end"},
}

var pairs = [][2]string{{"subject", "to"}, {"such", "that"}}

// cases gives a word in small letters, in great ones, and in a mixture of both.
func cases(s string) []string {
	mixed := []byte(s)
	for i := 1; i < len(mixed); i += 2 {
		mixed[i] = strings.ToUpper(s)[i]
	}
	return []string{s, strings.ToUpper(s), strings.ToUpper(s[:1]) + s[1:], string(mixed)}
}

// gaps are gaps of all kinds that a text can go on behind.
var gaps = []string{" ", "\t", "\n", "\r", "\r\n", "  \t ", "\\\n", "\\ so : it\\ is\n", " \\\r\n", "\n\n\\ one\n\t\\ two\r\n  ", "\\\\\n", "\\\x00\xff\n\r"}

func name(text string) api.Token { return api.Token{Kind: api.TName, Text: text} }

func word(w int, text string) api.Token { return api.Token{Kind: api.TWord, Text: text, Word: w} }

func sign(kind int, text string) api.Token { return api.Token{Kind: kind, Text: text} }

func number(text string, num, den int64) api.Token {
	return api.Token{Kind: api.TNumber, Text: text, Num: one(big.NewRat(num, den))}
}

// at sets a token at a place.
func at(line, col int, t api.Token) api.Token {
	t.Line, t.Col = line, col
	return t
}

// one tells a number in its one form.
func one(r *big.Rat) api.Rat {
	return api.Rat{Num: api.Int{Neg: r.Sign() < 0, Mag: limbsOf(r.Num())}, Den: limbsOf(r.Denom())}
}

func limbsOf(n *big.Int) api.Nat {
	var a api.Nat
	low := new(big.Int).SetUint64(math.MaxUint64)
	for m := new(big.Int).Abs(n); m.Sign() > 0; m.Rsh(m, 64) {
		a = append(a, new(big.Int).And(m, low).Uint64())
	}
	return a
}

// alike asks for all but the places. The number of a token that is none is nought in either way of R5.
func alike(a, b api.Token) bool {
	if a.Kind != b.Kind || a.Text != b.Text || a.Word != b.Word {
		return false
	}
	return sameNumber(a.Num, b.Num) || a.Kind != api.TNumber && isNothing(a.Num) && isNothing(b.Num)
}

func sameNumber(a, b api.Rat) bool {
	return a.Num.Neg == b.Num.Neg && slices.Equal(a.Num.Mag, b.Num.Mag) && slices.Equal(a.Den, b.Den)
}

func isNothing(a api.Rat) bool {
	return !a.Num.Neg && len(a.Num.Mag) == 0 && (len(a.Den) == 0 || slices.Equal(a.Den, api.Nat{1}))
}

func same(a, b api.Token) bool { return alike(a, b) && a.Line == b.Line && a.Col == b.Col }

// scans asks for these tokens, wherever they stand.
func scans(t *testing.T, s string, want ...api.Token) {
	t.Helper()
	if got, err := lex.Scan(s); err != nil || !slices.EqualFunc(got, want, alike) {
		t.Errorf("Scan(%q): %v, %v, want %v", s, got, err, want)
	}
}

// scansAt asks for these tokens at their places.
func scansAt(t *testing.T, s string, want ...api.Token) {
	t.Helper()
	if got, err := lex.Scan(s); err != nil || !slices.EqualFunc(got, want, same) {
		t.Errorf("Scan(%q): %v, %v, want %v", s, got, err, want)
	}
}

// fails asks for a fault, itself and not wrapped, for no token beside it, and for those ahead of it one by one.
func fails(t *testing.T, s string, line, col int, want error, ahead ...api.Token) {
	t.Helper()
	l, err := lex.Scan(s)
	f, ok := err.(*api.Fault)
	if !ok || f.Err != want || f.Line != line || f.Col != col {
		t.Errorf("Scan(%q): %v, want %v at %d:%d", s, err, want, line, col)
	}
	if len(l) != 0 {
		t.Errorf("Scan(%q): the tokens %v beside a fault", s, l)
	}
	if got := slices.Collect(lex.All(s)); !slices.EqualFunc(got, ahead, alike) {
		t.Errorf("All(%q): %v, want %v", s, got, ahead)
	}
}

// What stands at a text's beginning, told as patterns, so in another way than the package reads it.
var (
	gapAt    = regexp.MustCompile(`^(?:[ \t\n\r]|\\[^\n]*)*`)
	signAt   = longest(`^(?:\+|-|:|<|<=|=<|>|>=|=>|=)`)
	numberAt = longest(`^(?:(?:[0-9]+\.?[0-9]*|\.[0-9]+)(?:[eE][+-]?[0-9]+)?|[0-9]+/[0-9]+)`)
	runAt    = regexp.MustCompile("^[A-Za-z0-9!\"#$%&(),.;?@_'`{}~]+")
	bothAt   = regexp.MustCompile("^([A-Za-z0-9!\"#$%&(),.;?@_'`{}~]+)(?:[ \t\n\r]|\\\\[^\n]*\n)+([A-Za-z0-9!\"#$%&(),.;?@_'`{}~]+)")
)

func longest(pattern string) *regexp.Regexp {
	r := regexp.MustCompile(pattern)
	r.Longest()
	return r
}

// small makes the 26 letters small, and leaves all else.
func small(s string) string {
	b := []byte(s)
	for i, c := range b {
		if c >= 'A' && c <= 'Z' {
			b[i] = c + 32
		}
	}
	return string(b)
}

func isPair(first, second string) bool {
	return slices.Contains(pairs, [2]string{small(first), small(second)})
}

// wordOf is P5.2 by its words.
func wordOf(s string) int {
	for w, texts := range language {
		if slices.Contains(texts, small(s)) {
			return w
		}
	}
	if m := bothAt.FindStringSubmatch(s); m != nil && m[0] == s && isPair(m[1], m[2]) {
		return api.WSubject
	}
	return 0
}

// legal is P5.1 by its words.
func legal(s string) bool {
	if runAt.FindString(s) != s || s == "" || strings.Contains("0123456789.", s[:1]) || wordOf(s) != 0 {
		return false
	}
	return !slices.Contains([]string{"subject", "such", "to", "that"}, small(s))
}

// valueOf is the number of a literal without a sign, or the error that is due for it.
func valueOf(literal string) (api.Rat, error) {
	whole := func(s string) *big.Int {
		n, ok := new(big.Int).SetString(s, 10)
		if !ok {
			panic("the test's own literal is none: " + literal)
		}
		return n
	}
	if ahead, behind, ok := strings.Cut(literal, "/"); ok {
		if whole(behind).Sign() == 0 {
			return api.Rat{}, api.ErrDivide
		}
		return one(new(big.Rat).SetFrac(whole(ahead), whole(behind))), nil
	}
	decimal, exponent, ok := strings.Cut(small(literal), "e")
	if !ok {
		exponent = "0"
	}
	tens := whole(exponent)
	if tens.CmpAbs(big.NewInt(api.MaxExponent)) > 0 {
		return api.Rat{}, api.ErrExponent
	}
	ahead, behind, _ := strings.Cut(decimal, ".")
	tens.Sub(tens, big.NewInt(int64(len(behind))))
	power := new(big.Int).Exp(big.NewInt(10), new(big.Int).Abs(tens), nil)
	r := new(big.Rat).SetInt(whole(ahead + behind))
	if tens.Sign() < 0 {
		return one(r.Quo(r, new(big.Rat).SetInt(power))), nil
	}
	return one(r.Mul(r, new(big.Rat).SetInt(power))), nil
}

// tokenOf is the token at the beginning of a text by the words of P5.4 to P5.7.
func tokenOf(s string) (api.Token, error) {
	if strings.Contains("0123456789.", s[:1]) {
		text := numberAt.FindString(s)
		if text == "" {
			return api.Token{}, api.ErrNumber
		}
		num, err := valueOf(text)
		return api.Token{Kind: api.TNumber, Text: text, Num: num}, err
	}
	if run := runAt.FindString(s); run != "" {
		for _, text := range []string{run, bothAt.FindString(s)} {
			w, behind := wordOf(text), s[len(text):]
			if w != 0 && !strings.HasPrefix(behind[len(gapAt.FindString(behind)):], ":") {
				return word(w, text), nil
			}
		}
		return name(run), nil
	}
	kinds := map[string]int{"+": api.TPlus, "-": api.TMinus, ":": api.TColon, "<": api.TLess, "<=": api.TLess, "=<": api.TLess, ">": api.TGreater, ">=": api.TGreater, "=>": api.TGreater, "=": api.TEqual}
	text := signAt.FindString(s)
	if text == "" {
		return api.Token{}, api.ErrChar
	}
	return sign(kinds[text], text), nil
}

// tokensOf is what a text is to be scanned as, by the words of the promises; all tokens up to the fault, if there is one.
func tokensOf(s string) (l []api.Token, fault *api.Fault) {
	for i := len(gapAt.FindString(s)); i < len(s); {
		ahead := s[:i]
		line, col := 1+strings.Count(ahead, "\n"), len(ahead)-strings.LastIndex(ahead, "\n")
		k, err := tokenOf(s[i:])
		if err != nil {
			return l, &api.Fault{Line: line, Col: col, Err: err}
		}
		l = append(l, at(line, col, k))
		i += len(k.Text)
		i += len(gapAt.FindString(s[i:]))
	}
	return l, nil
}

// texts goes through all texts of two bytes at most, all of four at most of the pieces that tell most, and many longer ones by chance.
func texts(yield func(s string) bool) {
	for i := range 257 * 257 {
		var b []byte
		for _, c := range []int{i / 257, i % 257} {
			if c < 256 {
				b = append(b, byte(c))
			}
		}
		if !yield(string(b)) {
			return
		}
	}
	short := []string{"subject", "to", "Such", "thaT", "st", "e", "x", ":", "<", "=", ">", "+", " ", "\n", "\\", "1", "0", ".", "/", "*"}
	for i := range len(short) * len(short) * len(short) * len(short) {
		s := ""
		for ; i > 0; i /= len(short) {
			s += short[i%len(short)]
		}
		if !yield(s) {
			return
		}
	}
	for s := range chance {
		if !yield(s) {
			return
		}
	}
}

// chance makes texts of up to 24 pieces, most of them without a fault.
func chance(yield func(s string) bool) {
	pieces := []string{":", ":", "<", "=", ">", "+", "-", "e", "E", "x", "_1", "12", "0", ".5", "3.", "2/4", "1e2", "7E-2", "subject", "such", "to", "that", "tothat", "so\\", "subject\nto", "Such \\ : \n THAT", "1e9999", "5e10000", "1/0"}
	for _, texts := range language {
		for _, s := range texts {
			pieces = append(pieces, cases(s)[len(s)%4])
		}
	}
	slices.Sort(pieces)
	r := rand.New(rand.NewSource(5))
	for range 15000 {
		var b strings.Builder
		for range 1 + r.Intn(24) {
			b.WriteString(pieces[r.Intn(len(pieces))])
			if r.Intn(6) > 0 {
				b.WriteString(gaps[r.Intn(len(gaps))])
			}
			if r.Intn(200) == 0 {
				b.WriteByte(byte(r.Intn(256)))
			}
		}
		if !yield(b.String()) {
			return
		}
	}
}
