package pathq_test

import (
	"regexp"
	"slices"
	"strconv"
	"strings"
	"testing"
	"unicode/utf8"

	"incunable/api"
	"incunable/escape"
	"incunable/glyph"
	"incunable/pathq"
)

// The promises said anew: which texts are queries by one pattern of the whole, and what is amiss, and where, by a table of what may be behind what.

// whole is what queries look like as a whole, but for how many steps they have, and how many bytes their names.
const whole = `^(?://?(?:\.\.|\.|(?:(?:child|descendant|descendant-or-self|parent|ancestor|following-sibling|preceding-sibling|self)::)?(?:NAME|\*|text\(\)|node\(\))(?:\[(?:[1-9][0-9]{0,3}|last\(\)|@NAME(?:="[^"]*")?|text\(\)="[^"]*")\]){0,5}))+$`

const (
	start = `A-Z_a-z\x{c0}-\x{d6}\x{d8}-\x{f6}\x{f8}-\x{2ff}\x{370}-\x{37d}\x{37f}-\x{1fff}\x{200c}\x{200d}\x{2070}-\x{218f}\x{2c00}-\x{2fef}\x{3001}-\x{d7ff}\x{f900}-\x{fdcf}\x{fdf0}-\x{fffd}\x{10000}-\x{effff}`
	part  = start + `.0-9\x{b7}\x{300}-\x{36f}\x{203f}\x{2040}-`
)

var queries = regexp.MustCompile(strings.ReplaceAll(whole, "NAME", "["+start+"]["+part+"]*"))

// matches tells whether q looks like a query. What is no character's goes ahead, as a pattern takes it for a character.
func matches(q string) bool { return utf8.ValidString(q) && queries.MatchString(q) && values(q) }

// values tells whether Undo has nothing against the values of what matches the pattern: they are all that stands between quotation marks.
func values(q string) bool {
	for i, v := range strings.Split(q, `"`) {
		if _, _, e := escape.Undo(v, true); i%2 == 1 && e != api.OK {
			return false
		}
	}
	return true
}

// thing is what may stand somewhere: how it is told, what is done with it (false, if it is amiss), and what should be behind it.
type thing struct {
	of   func(s string) string // what of it s begins with
	do   func(m *model, s string) bool
	next string
}

type model struct {
	steps  []api.Step
	at     int
	amiss  api.Errno
	within int // how far into a thing its error is
}

func (m *model) step() *api.Step { return &m.steps[len(m.steps)-1] }
func (m *model) pred() *api.Pred { return &m.step().Preds[len(m.step().Preds)-1] }

// word is a thing that is written just so.
func word(w, next string, do func(m *model, s string) bool) thing {
	return thing{func(s string) string {
		if strings.HasPrefix(s, w) {
			return w
		}
		return ""
	}, do, next}
}

// run is a thing that goes on as long as f says.
func run(f func(c rune) bool, next string, do func(m *model, s string) bool) thing {
	return thing{func(s string) string {
		for i, c := range s {
			_, n := utf8.DecodeRuneInString(s[i:])
			if c == utf8.RuneError && n == 1 || !f(c) {
				return s[:i]
			}
		}
		return s
	}, do, next}
}

func digit(c rune) bool { return strings.ContainsRune("0123456789", c) }

func kind(k int) func(m *model, s string) bool {
	return func(m *model, s string) bool {
		m.pred().Kind = k
		return true
	}
}

func push(s api.Step) func(m *model, w string) bool {
	return func(m *model, w string) bool {
		m.steps = append(m.steps, s)
		return len(m.steps) <= 20
	}
}

func tested(n int) func(m *model, s string) bool {
	return func(m *model, s string) bool {
		m.step().Test = n
		if n == api.Named {
			m.step().Name = s
			return glyph.Name(s)
		}
		return true
	}
}

func nothing(m *model, s string) bool { return true }

// table tells for each state what may stand there: the first one of these that does is it. An empty word stands everywhere.
func table() map[string][]thing {
	t := map[string][]thing{
		"slash": {
			word("//", "step", func(m *model, s string) bool {
				return push(api.Step{Axis: api.Within, Test: api.AnyNode})(m, s) && len(m.steps) < 20
			}),
			word("/", "step", func(m *model, s string) bool { return len(m.steps) < 20 }),
		},
		"step": {
			word("..", "pointed", push(api.Step{Axis: api.Up, Test: api.AnyNode})),
			word(".", "pointed", push(api.Step{Axis: api.Self, Test: api.AnyNode})),
		},
		"test": {
			word("*", "tested", tested(api.Any)), word("text()", "tested", tested(api.Texts)), word("node()", "tested", tested(api.AnyNode)),
			run(glyph.Part, "tested", tested(api.Named)),
		},
		"tested": {
			word("[", "pred", func(m *model, s string) bool {
				m.step().Preds = append(m.step().Preds, api.Pred{})
				return len(m.step().Preds) <= 5
			}),
		},
		"pred": {
			run(digit, "close", func(m *model, s string) bool {
				n, err := strconv.Atoi(s)
				*m.pred() = api.Pred{Kind: api.Place, N: n}
				return err == nil && n >= 1 && n <= 9999 && strconv.Itoa(n) == s
			}),
			word("last()", "close", kind(api.Last)), word("@", "attribute", kind(api.Has)), word("text()", "equals", kind(api.Says)),
		},
		"attribute": {
			run(glyph.Part, "attributed", func(m *model, s string) bool {
				m.pred().Name = s
				return glyph.Name(s)
			}),
		},
		"attributed": {word("=", "quote", kind(api.Equals)), word("]", "tested", nothing)},
		"equals":     {word("=", "quote", nothing)},
		"quote":      {word(`"`, "value", nothing)},
		"value": {{func(s string) string { v, _, _ := strings.Cut(s, `"`); return s[:min(len(v)+1, len(s))] }, func(m *model, s string) bool {
			v, is := strings.CutSuffix(s, `"`)
			if !is {
				m.within = len(s)
				return false
			}
			made, n, e := escape.Undo(v, true)
			if e != api.OK {
				m.within, m.amiss = n, e
				return false
			}
			m.pred().Value = made
			return true
		}, "close"}},
		"close": {word("]", "tested", nothing)},
	}
	for i, w := range []string{"child", "descendant", "descendant-or-self", "parent", "ancestor", "following-sibling", "preceding-sibling", "self"} {
		t["step"] = append(t["step"], word(w+"::", "test", push(api.Step{Axis: i + 1})))
	}
	t["tested"] = append(t["tested"], t["slash"]...)
	t["pointed"] = t["slash"]
	return t
}

var things = table()

// parse says P7.1 anew.
func parse(q string) ([]api.Step, int, api.Errno) {
	if len(q) > 200 {
		return nil, 0, api.ErrQueryLong
	}
	m, state := &model{amiss: api.ErrQueryForm}, "slash"
	for m.at < len(q) || state != "tested" && state != "pointed" {
		s, i := "", slices.IndexFunc(things[state], func(t thing) bool { return t.of(q[m.at:]) != "" })
		switch {
		case i >= 0:
			s = things[state][i].of(q[m.at:])
			if !things[state][i].do(m, s) {
				return nil, m.at + m.within, m.amiss
			}
			state = things[state][i].next
		case state == "step":
			m.steps, state = append(m.steps, api.Step{Axis: api.Child}), "test"
		default:
			return nil, m.at, api.ErrQueryForm
		}
		m.at += len(s)
	}
	return m.steps, 0, api.OK
}

// agrees holds Parse of a text against the promises said anew, and against what follows.
func agrees(t *testing.T, q string) {
	t.Helper()
	l, at, e := pathq.Parse(q)
	want, place, amiss := parse(q)
	if e != amiss || at != place || !same(l, want) {
		t.Fatalf("P7.1: Parse(%q) is %v, %d at %d, not %v, %d at %d", q, l, e, at, want, amiss, place)
	}
	// A text of so few bytes has neither too many steps nor too long a name.
	if few := len(q) <= 20; e == api.OK && !matches(q) || e != api.OK && few && matches(q) {
		t.Fatalf("P7.1: Parse(%q) is %v, %d at %d, but that it looks like a query is %v", q, l, e, at, matches(q))
	}
	if e != api.OK {
		return
	}
	if !pathq.Right(l) {
		t.Fatalf("P7.3: Parse(%q) is %v, which is not Right", q, l)
	}
	s, is := pathq.Print(l)
	if back, at, e := pathq.Parse(s); !is || len(s) <= 200 && (e != api.OK || at != 0 || !same(back, l)) || len(s) > 200 && e != api.ErrQueryLong {
		t.Fatalf("P7.3: Print of what Parse(%q) told is %q, %v, and that is read as %v, %d at %d", q, s, is, back, e, at)
	}
}

// spelt calls f with every text of up to most of the given parts.
func spelt(parts []string, most int, f func(s string)) {
	f("")
	if most == 0 {
		return
	}
	for _, p := range parts {
		spelt(parts, most-1, func(s string) { f(p + s) })
	}
}

// P7.1, P7.3: every short text of what queries are made of.
func TestShortTexts(t *testing.T) {
	spelt([]string{"/", ".", "a", "1", "*", "[", "]", "@", "=", `"`, "-", ":", "self::", "text()", "node()", "last()", " ", "\u00e9", "\x80"}, 4, func(s string) {
		agrees(t, s)
	})
	spelt([]string{"/", ".", "a", "1", "*", ":", "child::", "text()", "node", "(", ")", "[1]"}, 5, func(s string) {
		agrees(t, "/"+s)
	})
}

// P7.1, P7.3: every short inside of a predicate, with its bracket and without.
func TestShortPredicates(t *testing.T) {
	spelt([]string{"0", "1", "12", "a", "@", "=", `"`, "]", "[", "/", "last()", "text()", "&", "&lt;", "\t", "\xff"}, 4, func(s string) {
		agrees(t, "/a["+s)
		agrees(t, "/a["+s+"]")
	})
	spelt([]string{"a", "]", "/", `"`, "&", "&lt;", "<", "&#0;", "\n", "\x80", "\u20ac"}, 4, func(s string) {
		agrees(t, `//*[@k="`+s+`"]`)
		agrees(t, `/a/b[text()="`+s)
	})
}

// P7.1, P7.3: queries in which one byte is left out, put in, or put for another, or which end ahead of their end.
func TestNearQueries(t *testing.T) {
	for _, q := range []string{
		"/a//b[2]", "/..//.", "/child::a/descendant::*/descendant-or-self::node()/parent::b", "/ancestor::text()/following-sibling::c/preceding-sibling::d/self::e",
		`/a[1234][last()][@k][@k="v&lt;&#x41;"][text()="x"]`, "//text()[9999]/..", "/\u00e9\u0300[@\u00e9]", strings.Repeat("/a", 20), strings.Repeat("/.", 18) + "//..",
		"/n" + strings.Repeat("n", 58) + "/a[@" + strings.Repeat("n", 60) + `]`, `/a[text()=""][@b=""]`,
		"/a[@k=\"" + strings.Repeat("v", 191) + `"]`,
	} {
		agrees(t, q)
		for i := 0; i <= len(q); i++ {
			agrees(t, q[:i])
			for _, b := range []string{"", "/", ".", "a", "0", "1", "[", "]", "@", "=", `"`, ":", "(", ")", "*", "&", "<", "\t", "\x00", "\xc3", "-", "text()", "last()", "[1]"} {
				agrees(t, q[:i]+b+q[i:])
				if i < len(q) {
					agrees(t, q[:i]+b+q[i+1:])
				}
			}
		}
	}
}
