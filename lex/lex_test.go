package lex_test

import (
	"bytes"
	"math"
	"math/big"
	"math/rand"
	"regexp"
	"slices"
	"strconv"
	"strings"
	"testing"

	"quern/api"
	"quern/lex"
)

const (
	allWords = "func var if else for return break continue print panic input len make int bool true false nil"
	allSigns = "( ) { } [ ] , ; = == != < <= > >= + - * / % & | ^ &^ << >> && || !"
)

func name(at int, s string) api.Token { return api.Token{Kind: api.TokName, At: at, Name: s} }
func number(at, n int) api.Token      { return api.Token{Kind: api.TokNumber, At: at, Value: n} }
func sign(at, kind int) api.Token     { return api.Token{Kind: kind, At: at} }
func list(l ...api.Token) []api.Token { return l }

// kinds are those of the words or of the signs, in the order of api.
func kinds(of string, first int) map[string]int {
	m := map[string]int{}
	for i, w := range strings.Fields(of) {
		m[w] = first + i
	}
	return m
}

func expect(t *testing.T, promise, text string, tokens []api.Token, at int, err api.Errno) {
	t.Helper()
	got, gotAt, gotErr := lex.Tokens([]byte(text))
	if gotErr != err || gotAt != at || !slices.Equal(got, tokens) {
		t.Errorf("%s: %q: %v %d %v, want %v %d %v", promise, text, got, gotAt, gotErr, tokens, at, err)
	}
}

var (
	wordKinds     = kinds(allWords, api.TokFunc)
	signKinds     = kinds(allSigns, api.TokOpen)
	blankForm     = regexp.MustCompile(`^[\t\n\r ]+`)
	commentForm   = regexp.MustCompile(`^//[\t\r -~]*`)
	nameForm      = regexp.MustCompile(`^[A-Za-z_][A-Za-z_0-9]*`)
	numberForm    = regexp.MustCompile(`^[0-9]+`)
	rightNumber   = regexp.MustCompile(`^(0|[1-9][0-9]*)$`)
	greatest      = big.NewInt(math.MaxInt64)
	longestSign   = 2
	strangeBytes  = bytesWhere(func(b int) bool { return b != 9 && b != 10 && b != 13 && (b < 32 || b > 126) })
	begunByNobody = append(slices.Clone(strangeBytes), []byte("\"#$'.:?@\\`~")...)
)

func bytesWhere(is func(b int) bool) []byte {
	var l []byte
	for b := range 256 {
		if is(b) {
			l = append(l, byte(b))
		}
	}
	return l
}

// wanted reads a text by the words of P201 to P203, with patterns.
func wanted(text []byte) ([]api.Token, int, api.Errno) {
	var tokens []api.Token
	at := 0
	for at < len(text) {
		rest := text[at:]
		if m := blankForm.Find(rest); m != nil {
			at += len(m)
			continue
		}
		if m := commentForm.Find(rest); m != nil {
			at += len(m)
			if at < len(text) && text[at] != 10 {
				return tokens, at, api.ErrLexByte
			}
			continue
		}
		token, length, err := wantedToken(rest)
		if err != api.OK {
			return tokens, at, err
		}
		token.At = at
		tokens = append(tokens, token)
		at += length
	}
	return tokens, 0, api.OK
}

func wantedToken(rest []byte) (api.Token, int, api.Errno) {
	if m := nameForm.Find(rest); m != nil {
		if kind, ok := wordKinds[string(m)]; ok {
			return api.Token{Kind: kind}, len(m), api.OK
		}
		if len(m) > api.MaxName {
			return api.Token{}, 0, api.ErrLexName
		}
		return api.Token{Kind: api.TokName, Name: string(m)}, len(m), api.OK
	}
	if m := numberForm.Find(rest); m != nil {
		n, _ := new(big.Int).SetString(string(m), 10)
		if !rightNumber.Match(m) || n.Cmp(greatest) > 0 {
			return api.Token{}, 0, api.ErrLexNumber
		}
		return api.Token{Kind: api.TokNumber, Value: int(n.Int64())}, len(m), api.OK
	}
	for length := min(longestSign, len(rest)); length > 0; length-- {
		if kind, ok := signKinds[string(rest[:length])]; ok {
			return api.Token{Kind: kind}, length, api.OK
		}
	}
	return api.Token{}, 0, api.ErrLexByte
}

func expectWanted(t *testing.T, promise string, text []byte) {
	t.Helper()
	tokens, at, err := wanted(text)
	expect(t, promise, string(text), tokens, at, err)
}

func TestP201Blank(t *testing.T) {
	for _, b := range []string{"\t", "\n", "\r", " ", "\n\r\t  \t"} {
		expect(t, "P201", b, nil, 0, api.OK)
		expect(t, "P201", b+"a"+b+"b"+b, list(name(len(b), "a"), name(2*len(b)+1, "b")), 0, api.OK)
		expect(t, "P201", "="+b+"=", list(sign(0, api.TokSet), sign(1+len(b), api.TokSet)), 0, api.OK)
	}
	for _, b := range strangeBytes {
		expect(t, "P201", string([]byte{b}), nil, 0, api.ErrLexByte)
		expect(t, "P201", string([]byte{'a', ' ', b, ' '}), list(name(0, "a")), 2, api.ErrLexByte)
	}
}

func TestP201Comment(t *testing.T) {
	expect(t, "P201", "//", nil, 0, api.OK)
	expect(t, "P201", "///", nil, 0, api.OK)
	expect(t, "P201", "//\n", nil, 0, api.OK)
	expect(t, "P201", "//a\n//b\nc//d", list(name(8, "c")), 0, api.OK)
	expect(t, "P201", "a//b\rc\td", list(name(0, "a")), 0, api.OK)
	expect(t, "P201", "a//b\nc", list(name(0, "a"), name(5, "c")), 0, api.OK)
	expect(t, "P201", "/", list(sign(0, api.TokDiv)), 0, api.OK)
	expect(t, "P201", "/\n/", list(sign(0, api.TokDiv), sign(2, api.TokDiv)), 0, api.OK)
	expect(t, "P201", "/*//", list(sign(0, api.TokDiv), sign(1, api.TokMul)), 0, api.OK)
	expect(t, "P201", "1//2", list(number(0, 1)), 0, api.OK)
	expect(t, "P201", "<//=", list(sign(0, api.TokLt)), 0, api.OK)
	expect(t, "P201", "// 012 $ := "+strings.Repeat("a", 70), nil, 0, api.OK)
	for b := range 256 {
		text := string([]byte{'a', '/', '/', byte(b), 'b'})
		switch {
		case b == 10:
			expect(t, "P201", text, list(name(0, "a"), name(4, "b")), 0, api.OK)
		case bytes.IndexByte(strangeBytes, byte(b)) >= 0:
			expect(t, "P201", text, list(name(0, "a")), 3, api.ErrLexByte)
		default:
			expect(t, "P201", text, list(name(0, "a")), 0, api.OK)
		}
	}
}

func TestP202Names(t *testing.T) {
	for _, b := range []byte("ABCDEFGHIJKLMNOPQRSTUVWXYZabcdefghijklmnopqrstuvwxyz_") {
		c := string(b)
		expect(t, "P202", c, list(name(0, c)), 0, api.OK)
		expect(t, "P202", c+"0"+c+"9"+c, list(name(0, c+"0"+c+"9"+c)), 0, api.OK)
	}
	for _, s := range []string{"_", "__", "_0", "x0123456789", "Func", "IF", "iff", "i", "fo", "lent", "_int", "int0", "int_", "boole", "tru", "nils"} {
		expect(t, "P202", " "+s+" ", list(name(1, s)), 0, api.OK)
	}
	for _, n := range []int{1, 2, 63, 64} {
		s := strings.Repeat("aZ_9", 16)[:n]
		expect(t, "P202", s, list(name(0, s)), 0, api.OK)
		expect(t, "P202", s+"-"+s, list(name(0, s), sign(n, api.TokSub), name(n+1, s)), 0, api.OK)
	}
	for _, n := range []int{65, 66, 128, 5000} {
		s := strings.Repeat("a", n)
		expect(t, "P202", s, nil, 0, api.ErrLexName)
		expect(t, "P202", "x "+s+" y", list(name(0, "x")), 2, api.ErrLexName)
		expect(t, "P202", "a"+s[:63]+"0", nil, 0, api.ErrLexName)
	}
}

func TestP202Words(t *testing.T) {
	if len(wordKinds) != 18 || wordKinds["func"] != api.TokFunc || wordKinds["nil"] != api.TokNil {
		t.Fatal("the words are others than api's")
	}
	for w, kind := range wordKinds {
		n := len(w)
		expect(t, "P202", w, list(sign(0, kind)), 0, api.OK)
		expect(t, "P202", w+w, list(name(0, w+w)), 0, api.OK)
		expect(t, "P202", w+"1", list(name(0, w+"1")), 0, api.OK)
		expect(t, "P202", "_"+w, list(name(0, "_"+w)), 0, api.OK)
		expect(t, "P202", strings.ToUpper(w), list(name(0, strings.ToUpper(w))), 0, api.OK)
		expect(t, "P202", "1"+w+"(", list(number(0, 1), sign(1, kind), sign(1+n, api.TokOpen)), 0, api.OK)
	}
}

func TestP202Numbers(t *testing.T) {
	for _, n := range []int{0, 1, 9, 10, 99, 100, 12345678901234567, math.MaxInt64/10 - 1, math.MaxInt64 / 10, math.MaxInt64 - 1, math.MaxInt64} {
		s := strconv.Itoa(n)
		expect(t, "P202", s, list(number(0, n)), 0, api.OK)
		expect(t, "P202", s+"a", list(number(0, n), name(len(s), "a")), 0, api.OK)
		expect(t, "P202", s+"//0", list(number(0, n)), 0, api.OK)
		expect(t, "P202", "0"+s, nil, 0, api.ErrLexNumber)
		expect(t, "P202", s+"\n0"+s, list(number(0, n)), len(s)+1, api.ErrLexNumber)
	}
	expect(t, "P202", "0x10", list(number(0, 0), name(1, "x10")), 0, api.OK)
	expect(t, "P202", "0 0", list(number(0, 0), number(2, 0)), 0, api.OK)
	expect(t, "P202", "1.5", list(number(0, 1)), 1, api.ErrLexByte)
	expect(t, "P202", "1_0", list(number(0, 1), name(1, "_0")), 0, api.OK)
	above := new(big.Int).Set(greatest)
	for range 300 {
		above.Add(above, big.NewInt(1))
		expect(t, "P202", "-"+above.String(), list(sign(0, api.TokSub)), 1, api.ErrLexNumber)
	}
	for shift := uint(63); shift < 400; shift++ {
		power := new(big.Int).Lsh(big.NewInt(1), shift)
		for _, more := range []int64{-1, 0, 1, 5, 1000} {
			expectWanted(t, "P202", []byte(new(big.Int).Add(power, big.NewInt(more)).String()))
		}
	}
	expect(t, "P202", strings.Repeat("0", 1000), nil, 0, api.ErrLexNumber)
	expect(t, "P202", strings.Repeat("1", 1000), nil, 0, api.ErrLexNumber)
}

func TestP202Signs(t *testing.T) {
	if len(signKinds) != 29 || signKinds["("] != api.TokOpen || signKinds["!"] != api.TokNot {
		t.Fatal("the signs are others than api's")
	}
	for s, kind := range signKinds {
		expect(t, "P202", s, list(sign(0, kind)), 0, api.OK)
		expect(t, "P202", "a"+s+"1", list(name(0, "a"), sign(1, kind), number(1+len(s), 1)), 0, api.OK)
	}
	expect(t, "P202", "===", list(sign(0, api.TokEq), sign(2, api.TokSet)), 0, api.OK)
	expect(t, "P202", "&&^", list(sign(0, api.TokBoth), sign(2, api.TokXor)), 0, api.OK)
	expect(t, "P202", "&&&^", list(sign(0, api.TokBoth), sign(2, api.TokBic)), 0, api.OK)
	expect(t, "P202", "|||", list(sign(0, api.TokEither), sign(2, api.TokOr)), 0, api.OK)
	expect(t, "P202", ">>=", list(sign(0, api.TokShr), sign(2, api.TokSet)), 0, api.OK)
	expect(t, "P202", "<<", list(sign(0, api.TokShl)), 0, api.OK)
	expect(t, "P202", "!!", list(sign(0, api.TokNot), sign(1, api.TokNot)), 0, api.OK)
	expect(t, "P202", "++", list(sign(0, api.TokAdd), sign(1, api.TokAdd)), 0, api.OK)
	expect(t, "P202", "=!", list(sign(0, api.TokSet), sign(1, api.TokNot)), 0, api.OK)
}

func TestP202OtherBytes(t *testing.T) {
	for _, b := range begunByNobody {
		c := string([]byte{b})
		expect(t, "P202", c, nil, 0, api.ErrLexByte)
		expect(t, "P202", "x1"+c+"y", list(name(0, "x1")), 2, api.ErrLexByte)
		expect(t, "P202", "7"+c, list(number(0, 7)), 1, api.ErrLexByte)
		expect(t, "P202", "<"+c+"<", list(sign(0, api.TokLt)), 1, api.ErrLexByte)
	}
}

// TestP202Short holds every text of at most two bytes, and those of three and four of some bytes, against the patterns.
func TestP202Short(t *testing.T) {
	texts := [][]byte{nil}
	for first := 0; first < len(texts); first++ {
		expectWanted(t, "P202", texts[first])
		if len(texts[first]) < 2 {
			for b := range 256 {
				texts = append(texts, append(slices.Clone(texts[first]), byte(b)))
			}
		}
	}
	some := []byte("a0f_1/=<>&|^!(\n \x00.")
	text := make([]byte, 4)
	for i := range len(some) * len(some) * len(some) * len(some) {
		for place := range text {
			text[place] = some[i%len(some)]
			i /= len(some)
		}
		expectWanted(t, "P202", text[:3])
		expectWanted(t, "P202", text)
	}
}

func TestP203Examples(t *testing.T) {
	long := strings.Repeat("q", 64)
	expect(t, "P203", "", nil, 0, api.OK)
	expect(t, "P203", "// a", nil, 0, api.OK)
	expect(t, "P203", "x1 = 0;", list(name(0, "x1"), sign(3, api.TokSet), number(5, 0), sign(6, api.TokSemi)), 0, api.OK)
	expect(t, "P203", "a&^b&&c& ^d", list(name(0, "a"), sign(1, api.TokBic), name(3, "b"), sign(4, api.TokBoth), name(6, "c"), sign(7, api.TokAnd), sign(9, api.TokXor), name(10, "d")), 0, api.OK)
	expect(t, "P203", "12ab<<<=", list(number(0, 12), name(2, "ab"), sign(4, api.TokShl), sign(6, api.TokLe)), 0, api.OK)
	expect(t, "P203", "x/ /y//z", list(name(0, "x"), sign(1, api.TokDiv), sign(3, api.TokDiv), name(4, "y")), 0, api.OK)
	expect(t, "P203", "a 012", list(name(0, "a")), 2, api.ErrLexNumber)
	expect(t, "P203", "9223372036854775807 9223372036854775808", list(number(0, math.MaxInt64)), 20, api.ErrLexNumber)
	expect(t, "P203", "a := 1", list(name(0, "a")), 2, api.ErrLexByte)
	expect(t, "P203", "f // \xc8", list(name(0, "f")), 5, api.ErrLexByte)
	expect(t, "P203", long+" "+long+"q", list(name(0, long)), 65, api.ErrLexName)
}

func TestP203FirstFault(t *testing.T) {
	long := strings.Repeat("n", 65)
	expect(t, "P203", "# 01 "+long, nil, 0, api.ErrLexByte)
	expect(t, "P203", "01 # "+long, nil, 0, api.ErrLexNumber)
	expect(t, "P203", long+" 01 #", nil, 0, api.ErrLexName)
	expect(t, "P203", "//\x01\n#", nil, 2, api.ErrLexByte)
	expect(t, "P203", "if\n00//\x01", list(sign(0, api.TokIf)), 3, api.ErrLexNumber)
	expect(t, "P203", "01\x80", nil, 0, api.ErrLexNumber)
}

// drawText puts pieces behind one another that meet one another's edges.
func drawText(draw *rand.Rand, faults bool) []byte {
	pieces := append(strings.Fields(allWords+" "+allSigns), " ", "\n", "\t", "\r", "//", "// x = 0;\n", "x", "_y1", "0", "10",
		"9223372036854775807", strings.Repeat("k", 64))
	if faults {
		pieces = append(pieces, "00", "012", "9223372036854775808", "99999999999999999999999", strings.Repeat("k", 65), "#", "\x00", "\xff", "//\x7f", ".")
	}
	var text []byte
	for range draw.Intn(30) {
		text = append(text, pieces[draw.Intn(len(pieces))]...)
	}
	return text
}

// TestP203Drawn holds longer texts against the patterns, with few faults and with many.
func TestP203Drawn(t *testing.T) {
	draw := rand.New(rand.NewSource(203))
	for range 20000 {
		expectWanted(t, "P203", drawText(draw, false))
		expectWanted(t, "P203", drawText(draw, true))
	}
}

func TestP203LongText(t *testing.T) {
	piece := "x1 = 0; // y\n"
	many := (api.MaxSource + 100) / len(piece)
	got, at, err := lex.Tokens([]byte(strings.Repeat(piece, many)))
	if len(got) != 4*many || at != 0 || err != api.OK {
		t.Fatalf("P203: a text beyond MaxSource: %d tokens, %d, %v", len(got), at, err)
	}
	last := (many - 1) * len(piece)
	if got[4*many-4] != name(last, "x1") || got[4*many-1] != sign(last+6, api.TokSemi) {
		t.Errorf("P203: the last tokens of a long text are others: %v", got[4*many-4:])
	}
}

func TestP204AheadOfAFault(t *testing.T) {
	draw := rand.New(rand.NewSource(204))
	faults := 0
	for range 20000 {
		text := drawText(draw, true)
		tokens, at, err := lex.Tokens(text)
		if err == api.OK {
			continue
		}
		faults++
		expect(t, "P204", string(text[:at]), tokens, 0, api.OK)
	}
	if faults < 1000 {
		t.Fatalf("only %d of the texts have a fault", faults)
	}
}

// spelled is what a token looks like in a text.
func spelled(token api.Token) string {
	for _, of := range []map[string]int{wordKinds, signKinds} {
		for s, kind := range of {
			if kind == token.Kind {
				return s
			}
		}
	}
	if token.Kind == api.TokNumber {
		return strconv.Itoa(token.Value)
	}
	return token.Name
}

func TestP204BlanksChangePlacesAlone(t *testing.T) {
	draw := rand.New(rand.NewSource(205))
	// A comment has a blank ahead of it here: right behind a "/" it would be another comment.
	blanks := []string{" ", "\n", "\t", "\r", " //\n", " // x = 1;\n", "\r\n\t "}
	for range 3000 {
		tokens, _, err := lex.Tokens(drawText(draw, false))
		if err != api.OK {
			continue
		}
		var text strings.Builder
		var want []api.Token
		for _, token := range tokens {
			for range 1 + draw.Intn(2) {
				text.WriteString(blanks[draw.Intn(len(blanks))])
			}
			token.At = text.Len()
			want = append(want, token)
			text.WriteString(spelled(token))
		}
		expect(t, "P204", text.String()+" //", want, 0, api.OK)
	}
}

func TestP205NothingIsChanged(t *testing.T) {
	for _, s := range []string{"", "a", "func main() { x = 12; } // end\n", "a 012", "b := c", "// \x80"} {
		room := append([]byte(s), "/behind it/"...)
		whole := slices.Clone(room)
		first, firstAt, firstErr := lex.Tokens(room[:len(s)])
		if !bytes.Equal(room, whole) {
			t.Errorf("P205: %q: what was handed in has changed: %q", s, room)
		}
		expect(t, "P205", s, first, firstAt, firstErr)
	}
}

func TestP205NothingIsKept(t *testing.T) {
	text := []byte("ab cd 12 if ;")
	one, _, _ := lex.Tokens(text)
	two, _, _ := lex.Tokens(text)
	want := slices.Clone(two)
	for i := range text {
		text[i] = 'z'
	}
	if !slices.Equal(one, want) || !slices.Equal(two, want) || want[0] != name(0, "ab") {
		t.Errorf("P205: tokens changed with their text: %v %v", one, two)
	}
	clear(one[:cap(one)])
	if !slices.Equal(two, want) {
		t.Errorf("P205: two answers share memory: %v", two)
	}
	three, _, _ := lex.Tokens([]byte("ab cd 12 if ;"))
	if !slices.Equal(three, want) {
		t.Errorf("P205: an answer hangs on an earlier one: %v", three)
	}
}
