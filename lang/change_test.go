package lang_test

import (
	"math/rand"
	"slices"
	"strconv"
	"strings"
	"testing"

	"arcade/api"
	"arcade/lang"
)

// tokensOf is a source's tokens, as they are written, if they are right up to its end.
func tokensOf(source string) []string {
	tokens, _ := modelScan(source)
	var texts []string
	for _, t := range tokens {
		texts = append(texts, t.text)
	}
	return texts
}

// likeModel holds what all calls answer of a source, right or wrong, by the other way of checking; it tells what that is.
func likeModel(t *testing.T, source string) api.Errno {
	t.Helper()
	place, e := modelCheck(source)
	if e != api.OK {
		checks(t, source, e, place)
		return e
	}
	at, e := lang.Check(source)
	if at != 0 || e != api.OK {
		t.Errorf("L1: Check(%q) = %d, %d", source, at, e)
	}
	// One of some is enough to be looked at closely.
	if len(source)%8 == 0 {
		holdsWithin(t, source, []int{1, 2, 65535}, 300)
	}
	return e
}

// spoiled is a list of tokens with one thing changed.
func spoiled(r *rand.Rand, tokens []string) []string {
	other := strings.Fields(`fn var if else while break continue return out print in left a b c f g main q abcdefghijkl abcdefghijklm 0 65535 65536 257 1x $ $fg 'x' '' "t" " @ = == ( ) [ ] { } , ; - ~ ! + * / < && || | 1 2 3`)
	i, one := r.Intn(len(tokens)), other[r.Intn(len(other))]
	changed := slices.Clone(tokens)
	switch r.Intn(5) {
	case 0:
		return slices.Delete(changed, i, i+1)
	case 1:
		return slices.Insert(changed, i, one)
	case 2:
		j := r.Intn(len(tokens))
		changed[i], changed[j] = changed[j], changed[i]
	case 3:
		// Another token of the same source is likely to be read, but not to be known.
		changed[i] = tokens[r.Intn(len(tokens))]
	default:
		changed[i] = one
	}
	return changed
}

// misused is a list of tokens that can still be read, most often, with one thing changed.
func misused(r *rand.Rand, tokens []string) []string {
	one := func(of ...string) string { return of[r.Intn(len(of))] }
	i := r.Intn(len(tokens))
	token := tokens[i]
	changed := slices.Clone(tokens)
	switch {
	case modelWord.MatchString(token) && !slices.Contains(modelKeywords, token):
		changed[i] = one("a", "b", "c", "d", "e", "f", "g", "i", "main", "q")
	case token[0] == '$' || token[0] >= '0' && token[0] <= '9':
		changed[i] = one("0", "1", "256", "257", "300", "65535", "65536", "$00010000", "000")
	case token == ";":
		changed[i] = one("; break ;", "; continue ;", "; var a = b ;", "; { var a = a ; }", "; f ( ) ;", "; a = 1 ;")
	case token == "(":
		changed[i] = one("( 1", "( a , 1", "( a , 1 ,", "( b ,")
	case modelRowOf(token) >= 0:
		changed[i] = one(token+" 1 +", token+" a [ 1 ] -", token+" b ( ) *")
	}
	return strings.Fields(strings.Join(changed, " "))
}

// What is wrong with a program in which some tokens were changed is told as by the other way of looking for it.
func TestL1SpoiledTokens(t *testing.T) {
	for part := range int64(8) {
		t.Run(strconv.FormatInt(part, 10), func(t *testing.T) {
			t.Parallel()
			told := map[api.Errno]int{}
			for i := range int64(60) {
				l := newLot(7777 + part*1000 + i)
				tokens := l.program(40 + l.Intn(100))
				for range 24 {
					changed := slices.DeleteFunc(slices.Clone(tokens), func(token string) bool { return token[0] == '"' && strings.Contains(token, " ") })
					change := []func(*rand.Rand, []string) []string{spoiled, misused, misused}[l.Intn(3)]
					for range 1 + l.Intn(3) {
						changed = change(l.Rand, changed)
					}
					told[likeModel(t, l.laid(changed, l.Intn(2) == 0))]++
				}
			}
			for _, e := range []api.Errno{api.OK, api.ErrLangText, api.ErrLangNumber, api.ErrLangTwice, api.ErrLangName, api.ErrLangArgs, api.ErrLangLoop, api.ErrLangMain} {
				if told[e] < 2 {
					t.Errorf("%d was told %d times only", e, told[e])
				}
			}
		})
	}
}

// So it is with bytes that were changed, whatever they are.
func TestL1SpoiledBytes(t *testing.T) {
	for part := range int64(4) {
		t.Run(strconv.FormatInt(part, 10), func(t *testing.T) {
			t.Parallel()
			for i := range int64(90) {
				l := newLot(55555 + part*1000 + i)
				source := []byte(l.laid(l.program(40+l.Intn(60)), l.Intn(2) == 0))
				for range 15 {
					changed := slices.Clone(source)
					for range 1 + l.Intn(2) {
						changed[l.Intn(len(changed))] = []byte("a0_$'\"\n\t #;=(){}[]-&|<>!~@\r\x00\x7f\xff\x80")[l.Intn(31)]
					}
					likeModel(t, string(changed))
				}
			}
		})
	}
}

// Bytes by lot are told to be what they are.
func TestL1AnyBytes(t *testing.T) {
	t.Parallel()
	r := rand.New(rand.NewSource(3))
	for range 6000 {
		bytes := make([]byte, r.Intn(40))
		r.Read(bytes)
		likeModel(t, string(bytes))
		likeModel(t, "fn main() {"+string(bytes)+"}")
	}
	for b := range 256 {
		likeModel(t, string([]byte{byte(b)})+plain)
		likeModel(t, plain+string([]byte{byte(b)}))
		likeModel(t, "fn main(){return '"+string([]byte{byte(b)})+"';}")
		likeModel(t, "fn main(){print \""+string([]byte{byte(b)})+"\";}")
		likeModel(t, "fn main(){return 1"+string([]byte{byte(b)})+";}")
		likeModel(t, "fn main(){return $1"+string([]byte{byte(b)})+";}")
		likeModel(t, "#"+string([]byte{byte(b)})+plain)
	}
}

// Every beginning of a program that is right is told as by the other way, and none but those that end behind a whole part is right.
func TestL1Beginnings(t *testing.T) {
	t.Parallel()
	for i := range int64(12) {
		source, _ := lotProgram(900000 + i)
		for n := range len(source) {
			likeModel(t, source[:n])
		}
	}
	source := "var a[3]; fn f(a, b) { if a < $1f && !b { print \"x y\"; } else if 'c' == 1 { } else { out f(a, -(b)); } } fn main() { while left() { break; } } # end"
	main, behind := strings.Index(source, "fn main"), strings.Index(source, "} # end")+1
	for n := range len(source) {
		at, e := lang.Check(source[:n])
		switch {
		case n >= behind:
			is(t, source[:n], e, api.OK)
		case n == 0, n == 9, n == 10, n == main, n == main-1:
			is(t, source[:n], e, api.ErrLangMain)
			is(t, source[:n], at, n)
		default:
			is(t, source[:n], e, api.ErrLangText)
		}
	}
}

// renamed is tokens in which all names are others, that are as many.
func renamed(l *lot, tokens []string) []string {
	long := []string{"x", "_", "__", "Var", "OUT", "in_", "a1", "left2", "zzzzzzzzzzzz", "_2345678901_", "If", "q", "fnn", "e", "E", "ABCDEFGHIJKL", "l0", "print_"}
	l.Shuffle(len(long), func(i, j int) { long[i], long[j] = long[j], long[i] })
	names := map[string]string{"main": "main"}
	var changed []string
	for _, token := range tokens {
		if modelWord.MatchString(token) && !slices.Contains(modelKeywords, token) {
			if names[token] == "" {
				names[token] = long[len(names)]
			}
			token = names[token]
		}
		changed = append(changed, token)
	}
	return changed
}

// sameButPlaces tells whether two runs went alike but for the place.
func sameButPlaces(a, b api.LangRun) bool {
	a.Place = b.Place
	return sameRun(a, b)
}

// Names that are changed throughout, comments and blanks change no meaning; and a trap is told at the same token.
func TestL5ByLot(t *testing.T) {
	for part := range int64(4) {
		t.Run(strconv.FormatInt(part, 10), func(t *testing.T) {
			t.Parallel()
			for i := range int64(60) {
				l := newLot(424242 + part*1000 + i)
				tokens := l.program(40 + l.Intn(160))
				source, in := l.laid(tokens, false), l.input()
				if len(source) > api.MaxLang {
					continue
				}
				r := runs(t, source, in, 3000)
				for _, other := range []string{l.laid(tokens, true), l.laid(renamed(l, tokens), false), l.laid(renamed(l, tokens), true), strings.Join(tokens, "\n"), strings.Join(tokens, " # x\n\t")} {
					if len(other) > api.MaxLang {
						checks(t, other, api.ErrLangLong, 0)
						continue
					}
					s := runs(t, other, in, 3000)
					if !sameButPlaces(r, s) || r.Kind == api.LangTrap && tokenAt(source, r.Place) != tokenAt(other, s.Place) {
						t.Fatalf("L5: Run(%q, %v) = %v, of %q = %v", source, in, r, other, s)
					}
					if s.Kind != api.LangFuel && i%4 == 0 {
						machineDoes(t, other, in, s)
					}
				}
				// Without names that are changed, the Format is the same.
				if a, b := formats(t, source), l.laid(tokens, true); len(b) <= api.MaxLang && formats(t, b) != a {
					t.Fatalf("L5: Format(%q) = %q, not %q", b, formats(t, b), a)
				}
			}
		})
	}
}

// tokenAt is which token of a source begins at a place.
func tokenAt(source string, place int) int {
	tokens, _ := modelScan(source)
	return slices.IndexFunc(tokens, func(t modelToken) bool { return t.place == place })
}

// Keywords are words as they are written: with another size of letters they are names; and main must be main.
func TestL5Names(t *testing.T) {
	t.Parallel()
	source := "var g; fn f(a) { var b = a + g; g = b; return b * 2; } fn main() { out f(3); { var g = 7; out g; } return f(g); }"
	want := holds(t, source, nil)
	for _, names := range []string{"x y z w", "a g f b", "Main main_ mAIN MAIN", "If Else While Fn", "_ __ ___ _0", "in_ inn lef leftt", "ABCDEFGHIJKL ABCDEFGHIJKl abcdefghijkl a23456789012", "b f a g"} {
		to := strings.Fields(names)
		var changed []string
		for _, token := range tokensOf(source) {
			if i := slices.Index([]string{"g", "f", "a", "b"}, token); i >= 0 {
				token = to[i]
			}
			changed = append(changed, token)
		}
		r := holds(t, strings.Join(changed, " "), nil)
		is(t, "L5: with "+names, sameButPlaces(r, want), true)
	}
	checks(t, "fn Main() {}", api.ErrLangMain, 12)
}
