package parse

import (
	"math/rand/v2"
	"regexp"
	"slices"
	"strings"
	"testing"

	"pastern/api"
	"pastern/expr"
	"pastern/show"
)

// What has to come: a word, a kind of words, or a part; of a node also how deep.
type due struct {
	what  string
	depth int
}

// A machine tells by the words of the chapter alone what a text is: it goes
// through the words once, and holds what has to come, the next one at the end.
type machine struct {
	due   []due
	nodes int
}

func (m *machine) put(l ...due) {
	slices.Reverse(l)
	m.due = append(m.due, l...)
}

func (m *machine) plain(l ...string) {
	var out []due
	for _, what := range l {
		out = append(out, due{what, 0})
	}
	m.put(out...)
}

var (
	isName = regexp.MustCompile(`^[a-z]+$`).MatchString
	isNum  = regexp.MustCompile(`^(0|-?[1-9][0-9]*)$`).MatchString
	isLeaf = regexp.MustCompile(`^(0|-?[1-9][0-9]*|".*"|TRUE|FALSE)$`).MatchString
	isOp   = regexp.MustCompile(`^([-+*=<]|!=|<=|AND|OR)$`).MatchString
)

// node: whether the word begins one, and whether there may be one.
func (m *machine) node(w string, depth int) api.Errno {
	if !isLeaf(w) && !isName(w) && w != "(" {
		return api.ErrForm
	}
	m.nodes++
	switch {
	case depth > api.MaxDepth || m.nodes > api.MaxNodes:
		return api.ErrLarge
	case w == "(":
		m.put(due{"kids", depth + 1})
	case isName(w):
		m.plain(".", "name")
	}
	return 0
}

// may: what has to come only if it begins with the word; else it is left out.
func (m *machine) may(what, w string) bool {
	switch what + w {
	case "not?!", "plus?+", "any?ANY":
	case "types?|":
		m.plain("name", "types?")
	case "elems?,":
		m.plain("elem", "elems?")
	case "by?BY":
		m.plain("name")
	case "cond?[":
		m.nodes = 0
		m.put(due{"node", 1}, due{"]", 0})
	default:
		return false
	}
	return true
}

func (m *machine) step(w string) api.Errno {
	for len(m.due) > 0 {
		d := m.due[len(m.due)-1]
		m.due = m.due[:len(m.due)-1]
		switch {
		case d.what == "node":
			return m.node(w, d.depth)
		case d.what == "kids" && w == "NOT":
			m.put(due{"node", d.depth}, due{")", 0})
			return 0
		case d.what == "kids":
			m.put(due{"node", d.depth}, due{"op", 0}, due{"node", d.depth}, due{")", 0})
		case d.what == "elem":
			m.plain("not?", "name", ":", "name", "types?", "plus?", "cond?")
		case strings.HasSuffix(d.what, "?"):
			if m.may(d.what, w) {
				return 0
			}
		case d.what == w, d.what == "name" && isName(w), d.what == "num" && isNum(w), d.what == "op" && isOp(w):
			return 0
		default:
			return api.ErrForm
		}
	}
	return api.ErrForm
}

func (m *machine) all(words []string) api.Errno {
	for _, w := range words {
		if e := m.step(w); e != 0 {
			return e
		}
	}
	for _, d := range m.due {
		if !strings.HasSuffix(d.what, "?") {
			return api.ErrForm
		}
	}
	return 0
}

func conditionBy(words []string) api.Errno {
	m := &machine{}
	m.put(due{"node", 1})
	return m.all(words)
}

var asked = regexp.MustCompile(` \[ .*? \]`)

// patternBy: behind the words what expr asks otherwise. (No text of these tests
// has a sign in it.)
func patternBy(words []string) api.Errno {
	m := &machine{}
	m.plain("SEQ", "(", "elem", "elems?", ")", "WITHIN", "num", "by?", "any?")
	if e := m.all(words); e != 0 {
		return e
	}
	bare := asked.ReplaceAllString(strings.Join(words, " "), "")
	elems, tail, _ := strings.Cut(strings.TrimPrefix(bare, "SEQ ( "), " ) WITHIN ")
	if !inRange(tail) || !inOrder(strings.Split(elems, " , ")) {
		return api.ErrForm
	}
	return 0
}

var inRange = regexp.MustCompile(`^([0-9]{1,3}|1000)( |$)`).MatchString

func inOrder(elems []string) bool {
	var aliases []string
	nots := "!"
	for _, e := range elems {
		not := strings.HasPrefix(e, "! ")
		alias, types, _ := strings.Cut(strings.TrimPrefix(e, "! "), " : ")
		l := strings.Split(strings.TrimSuffix(types, " +"), " | ")
		rising := slices.Compact(slices.Sorted(slices.Values(l)))
		if not && strings.HasSuffix(types, "+") || len(l) > api.MaxAlts || !slices.Equal(l, rising) || slices.Contains(aliases, alias) {
			return false
		}
		aliases = append(aliases, alias)
		nots += map[bool]string{false: ".", true: "!"}[not]
	}
	return !strings.Contains(nots+"!", "!!") && len(elems) <= api.MaxElems
}

// askExpr: Expr tells what the machine tells, and of a condition these words.
func askExpr(t *testing.T, words []string) api.Errno {
	t.Helper()
	s, want := strings.Join(words, " "), conditionBy(words)
	x, err := Expr(s)
	if errno(err) != want || want != 0 && !expr.Same(x, api.Expr{}) {
		t.Fatalf("P9.1: Expr(%s) = %+v, %v, not %v", s, x, err, want)
	}
	if want == 0 && !slices.Equal(wordsOf(show.Expr(x)), words) {
		t.Fatalf("P9.2: Expr(%s) is %s", s, show.Expr(x))
	}
	return want
}

func askPattern(t *testing.T, words []string) api.Errno {
	t.Helper()
	s, want := strings.Join(words, " "), patternBy(words)
	p, err := Pattern(s)
	if errno(err) != want || want != 0 && !expr.SamePattern(p, api.Pattern{}) {
		t.Fatalf("P9.1: Pattern(%s) = %+v, %v, not %v", s, p, err, want)
	}
	if want == 0 && !slices.Equal(wordsOf(show.Pattern(p)), words) {
		t.Fatalf("P9.2: Pattern(%s) is %s", s, show.Pattern(p))
	}
	return want
}

// behind gives all rows of up to so many words of the alphabet behind the head.
func behind(head []string, more int, alphabet []string, each func([]string)) {
	each(head)
	if more == 0 {
		return
	}
	for _, w := range alphabet {
		behind(append(slices.Clone(head), w), more-1, alphabet, each)
	}
}

// TestAllShortRows: what few words make, at the head of a text and where only
// little more may come.
func TestAllShortRows(t *testing.T) {
	alphabet := strings.Fields(`( ) NOT AND - < 1 -1 007 x . TRUE "y" YES ! ,`)
	for head, more := range map[string]int{
		"":                               4,
		"(":                              4,
		"(NOT":                           3,
		"(x.n":                           3,
		"((1 + 2) =":                     3,
		"((((":                           3,
		"(((((":                          3,
		"((((1 +":                        3,
		"(NOT (NOT (NOT (NOT":            3,
		"(NOT (NOT (NOT (NOT (NOT":       3,
		"(1 + (2 + (3 + (4 + (5 +":       3,
		"(1 + (2 + (3 + (4 + 5))))":      2,
		"(NOT (NOT (NOT (NOT (NOT TRUE)": 2,
	} {
		behind(wordsOf(head), more, alphabet, func(words []string) { askExpr(t, words) })
	}
}

// TestWhereTheNodesEnd: the last node that may be, and the one behind it.
func TestWhereTheNodesEnd(t *testing.T) {
	alphabet := strings.Fields(`( ) NOT + 1 007 x . TRUE "y" YES !`)
	full := wordsOf(sum(16))
	nodes := 0
	for i, w := range full {
		if nodes >= api.MaxNodes-2 && nodes <= api.MaxNodes {
			behind(full[:i], 3, alphabet, func(words []string) { askExpr(t, words) })
		}
		if w == "(" || w == "1" {
			nodes++
		}
	}
}

// TestFirstErrorFromTheLeft: the same two faults, either one ahead.
func TestFirstErrorFromTheLeft(t *testing.T) {
	deep, wide := nots(5, "TRUE"), sum(13)
	for _, large := range []string{deep, wide, "((((((", nots(5, "x"), nots(5, "a.")} {
		for _, bad := range []string{"()", "(1)", "YES", "007", "-0", "a.", ")", ",", "(1 AND)", "(NOT)", "[1]", "(1 ! 2)"} {
			noExpr(t, api.ErrLarge, "("+large+" + "+bad+")", large+bad, large+" "+bad)
			noExpr(t, api.ErrForm, "("+bad+" + "+large+")", bad+" ) "+large)
			noPattern(t, api.ErrLarge, "SEQ(a:b["+large+"], c:d["+bad+"]) WITHIN 5", asking(large)+" "+bad, "SEQ(a:b["+large+"] "+bad)
			noPattern(t, api.ErrForm, "SEQ(a:b["+bad+"], c:d["+large+"]) WITHIN 5", bad+" "+asking(large), "SEQ("+bad+"a:b["+large+"]) WITHIN 5")
		}
	}
	noExpr(t, api.ErrForm, "(((((", "(NOT (NOT (NOT (NOT (NOT", nots(5, ""), nots(5, "YES"), nots(5, "007"), nots(5, "NOT 1"), nots(5, ","))
	noExpr(t, api.ErrLarge, "((((((", "(NOT (NOT (NOT (NOT (NOT x", "(NOT (NOT (NOT (NOT (NOT (", "(NOT (NOT (NOT (NOT (NOT 0")
}

func TestWordsErrorsFirst(t *testing.T) {
	for _, ahead := range []string{
		"", "(1 + 2) ", "(1 2 ", "()", "007 ", "YES ", "((((((", nots(5, "TRUE"), sum(13),
		"SEQ(a:b) WITHIN 5 ", "SEQ(a:b, a:b) WITHIN 1001 ", asking(nots(5, "TRUE")) + " ",
	} {
		for _, c := range []struct {
			bad  string
			want api.Errno
		}{
			{"#", api.ErrWord}, {"\n", api.ErrWord}, {"\t", api.ErrWord}, {"\x00", api.ErrWord}, {"é", api.ErrWord}, {`"x`, api.ErrWord}, {`"\n"`, api.ErrWord},
			{"ninebytes", api.ErrLarge}, {"NINEBYTES", api.ErrLarge}, {"9223372036854775808", api.ErrLarge}, {`"seventeen bytes s"`, api.ErrLarge},
			{"ninebytes #", api.ErrLarge}, {"# ninebytes", api.ErrWord}, {strings.Repeat("1 ", api.MaxWords+1), api.ErrLarge},
		} {
			noExpr(t, c.want, ahead+c.bad, ahead+c.bad+" ) 1")
			noPattern(t, c.want, ahead+c.bad, ahead+c.bad+" ) 1")
		}
	}
	for _, w := range []string{"1 ", ") ", "a ", "TRUE ", `"x" `, "007 "} {
		noExpr(t, api.ErrForm, strings.Repeat(w, api.MaxWords))
		noPattern(t, api.ErrForm, strings.Repeat(w, api.MaxWords))
		noExpr(t, api.ErrLarge, strings.Repeat(w, api.MaxWords+1))
		noPattern(t, api.ErrLarge, strings.Repeat(w, api.MaxWords+1))
	}
}

// TestPatternsChangedAWord: patterns with a word left out, put in, put in place
// of another one, or in the place of its neighbour; and several of these.
func TestPatternsChangedAWord(t *testing.T) {
	alphabet := strings.Fields(`SEQ ( ) WITHIN BY ANY NOT AND TRUE XOR [ ] : | , + ! . - <= 1 -1 0 007 1000 1001 a b x "y"`)
	bases := []string{
		"SEQ ( a : b ) WITHIN 5",
		"SEQ ( a : x | y + [ ( a . n <= 1 ) ] , ! b : c , d : x [ TRUE ] ) WITHIN 1000 BY k ANY",
		"SEQ ( a : b , ! c : d , e : f | g | h , ! i : j [ ( NOT ( NOT ( NOT ( NOT x . y ) ) ) ) ] , k : l ) WITHIN 0 ANY",
		"SEQ ( a : b [ ( ( 1 + 2 ) - ( 3 * -4 ) ) ] , b : a ) WITHIN 7 BY b",
		"SEQ ( a : b , a : c [ ( NOT ( NOT ( NOT ( NOT ( NOT 1 ) ) ) ) ) ] ) WITHIN 5",
	}
	counts := map[api.Errno]int{}
	ask := func(words []string) { counts[askPattern(t, words)]++ }
	for _, base := range bases {
		words := strings.Fields(base)
		ask(words)
		for i := range words {
			ask(slices.Delete(slices.Clone(words), i, i+1))
			ask(words[:i])
			ask(words[i:])
			for _, w := range alphabet {
				ask(slices.Insert(slices.Clone(words), i, w))
				ask(slices.Replace(slices.Clone(words), i, i+1, w))
			}
		}
	}
	r := rand.New(rand.NewPCG(9, 1))
	for range 30000 {
		words := strings.Fields(bases[r.IntN(len(bases))])
		for range 1 + r.IntN(3) {
			i, k := r.IntN(len(words)), r.IntN(len(words))
			switch r.IntN(4) {
			case 0:
				words[i], words[k] = words[k], words[i]
			case 1:
				words[i] = words[k]
			case 2:
				words = slices.Insert(words, i, alphabet[r.IntN(len(alphabet))])
			default:
				words = slices.Delete(words, min(i, k), min(i, k)+1)
			}
		}
		ask(words)
	}
	if counts[0] < 500 || counts[api.ErrForm] < 500 || counts[api.ErrLarge] < 500 {
		t.Errorf("not a fair test: %v", counts)
	}
}
