package tariff_test

import (
	"fmt"
	"math/big"
	"regexp"
	"slices"
	"strings"
	"testing"

	"kentledge/api"
	"kentledge/tariff"
)

// textByWords is the text of a tariff.
func textByWords(t api.Tariff) string {
	s := ""
	for _, r := range t.Rules {
		about := r.Due
		for i, g := range r.Grades {
			about += []string{" of ", ", "}[min(i, 1)] + g
		}
		switch r.Kind {
		case api.RuDue:
			s += "due " + about + ": "
			for i, x := range r.Terms {
				s += []string{"", ", "}[min(i, 1)] + termByWords(x)
			}
			s += ";\n"
		case api.RuRebate:
			s += fmt.Sprintf("rebate %s %d in %d;\n", about, r.N, r.D)
		case api.RuLeast:
			s += fmt.Sprintf("least %s %d;\n", about, r.N)
		case api.RuMost:
			s += fmt.Sprintf("most %s %d;\n", about, r.N)
		case api.RuRound:
			s += fmt.Sprintf("round %s %s %d;\n", about, []string{"", "up", "down", "near"}[r.Way], r.N)
		}
	}
	return s
}

func termByWords(x api.Term) string {
	if x.Per == 0 {
		return fmt.Sprintf("flat %d", x.Pay)
	}
	s := fmt.Sprintf("per %d pay %d above %d upto %d", x.Per, x.Pay, x.Above, x.Upto)
	s = strings.Replace(s, " above 0 ", " ", 1)
	return strings.TrimSuffix(s, " upto 65536")
}

// P7.1: the tariff of the examples, its text, and sources that say the same.
func TestParseAndPrintExamples(t *testing.T) {
	sameTariff(t, parsed(t, source), example())
	equal(t, printed(t, example()), strings.Replace(source, " # each ship", "", 1))
	sameTariff(t, parsed(t, ""), api.Tariff{})
	sameTariff(t, parsed(t, " \t\n# nothing"), api.Tariff{})
	equal(t, printed(t, api.Tariff{}), "")
	dense := strings.NewReplacer(": ", ":", ", ", ",", "\n", "").Replace(strings.Replace(source, " # each ship", "", 1))
	sameTariff(t, parsed(t, dense), example())
	sameTariff(t, parsed(t, strings.ReplaceAll(printed(t, example()), " ", "\t# ; due \xff\n\n")), example())
	sameTariff(t, parsed(t, strings.ReplaceAll(source, ";", " ;")), example())
}

// P7.1: what each form of a rule and of a term is.
func TestParseRules(t *testing.T) {
	for s, want := range map[string]api.Rule{
		"due a: flat 0;":                              due("a", flat(0)),
		"due a: flat 10000, flat 7;":                  due("a", flat(10000), flat(7)),
		"due a: per 1 pay 2;":                         due("a", per(1, 2, 0, api.MaxMass)),
		"due a: per 1 pay 2 above 3;":                 due("a", per(1, 2, 3, api.MaxMass)),
		"due a: per 1 pay 2 upto 4;":                  due("a", per(1, 2, 0, 4)),
		"due a: per 1 pay 2 above 3 upto 4;":          due("a", per(1, 2, 3, 4)),
		"due a: per 1 pay 2 above 0 upto 65536;":      due("a", per(1, 2, 0, api.MaxMass)),
		"due a: per 65536 pay 10000 above 65535;":     due("a", per(65536, 10000, 65535, 65536)),
		"due a: per 0 pay 2 upto 0;":                  due("a", flat(2)), // with these numbers it is what a flat term is
		"due a: per 0 pay 2 above 0 upto 0;":          due("a", flat(2)),
		"due a of b: flat 1;":                         of(due("a", flat(1)), "b"),
		"due a of b, a, c: flat 1, per 2 pay 3;":      of(due("a", flat(1), per(2, 3, 0, api.MaxMass)), "b", "a", "c"),
		"rebate a 0 in 1;":                            rebate("a", 0, 1),
		"rebate a of b, c 1000 in 1000;":              of(rebate("a", 1000, 1000), "b", "c"),
		"least a 0;":                                  least("a", 0),
		"least a of b 10000;":                         of(least("a", 10000), "b"),
		"most a 0;":                                   most("a", 0),
		"most a of b, c 3;":                           of(most("a", 3), "b", "c"),
		"round a up 1;":                               round("a", api.WayUp, 1),
		"round a down 10000;":                         round("a", api.WayDown, 10000),
		"round a of b near 2;":                        of(round("a", api.WayNear, 2), "b"),
		"most abcdefghijklmnopqrstuvwx of z9 3;":      of(most("abcdefghijklmnopqrstuvwx", 3), "z9"),
		"most dues of a1, offs, nearer, inn, perpay1": {},
	} {
		if want.Kind == 0 {
			s, want = s+" 7;", of(most("dues", 7), "a1", "offs", "nearer", "inn", "perpay1")
		}
		sameTariff(t, parsed(t, s), rules(want), s)
		sameTariff(t, parsed(t, s+s), rules(want, want), s)
	}
}

// P7.1: the index of the first error of a token, and that these errors come ahead of those of the grammar.
func TestErrorsOfTokens(t *testing.T) {
	long := strings.Repeat("a", api.MaxName+1)
	for s, want := range map[string]int{
		"=": 0, "  =": 2, "a=": 1, "A": 0, "dUe": 1, "\r": 0, "\v": 0, "\x00": 0, "\xff": 0, "é": 0, "-": 0, "-1": 0, ".": 0, "/": 0, "`": 0, "{": 0, "@": 0, "[": 0, "!": 0, "<": 0,
		"07": 1, "00": 1, "0a": 1, "7a": 1, "12due": 2, "a 07": 3, "65537": 0, "x 65537": 2, "99999": 0, "100000": 0, "65536a": 5, "65537a": 0, "655360": 0,
		"9223372036854775808": 0, "18446744073709551617": 0, "18446744073709551617z": 0, "7=": 1, "7A": 1,
		long: 0, "; " + long: 2, long + "=": 0, long + "0": 0, "# =\n=": 4, "#\n\n =": 4,
		"due due = ": 8, "; 07": 3, "due a: flat 70000": 12, "due a: flat 70001;=": 12, "; ; due 65537 =": 8, "; = 65537": 2,
		strings.Repeat(" ", api.MaxTariff-1) + "=": api.MaxTariff - 1,
		"least a 1;" + strings.Repeat("9", 5000):   10,
	} {
		x, e, at := tariff.Parse(s)
		equal(t, e, api.ErrForm, s)
		equal(t, at, want, s)
		sameTariff(t, x, api.Tariff{}, s)
	}
}

// P7.1: the index of the first token that the grammar does not have there, or the source's length.
func TestErrorsOfGrammar(t *testing.T) {
	for s, want := range map[string]int{
		"due due: flat 3;": 4, "due a: flat 3": 13, "due a flat 3;": 6, "least a 07;": 9, "round a near 3;;": 15, "due a: flat 3 4;": 14,
		"a": 0, " a": 1, "7": 0, ";": 0, ":": 0, "of": 0, "flat 3;": 0, "up": 0, "due": 3, "due ": 4, "due # a": 7, "due 7": 4, "due :": 4, "due of": 4,
		"due a of: flat 3;": 8, "due a of of: flat 3;": 9, "due a of b c: flat 3;": 11, "due a of b, : flat 3;": 12, "due a of b,, c": 11, "due a, b: flat 3;": 5, "due a of 3": 9,
		"due a: ;": 7, "due a: flat;": 11, "due a: flat a;": 12, "due a: flat 3,;": 14, "due a: flat 3, 4;": 15, "due a: per;": 10, "due a: per 3;": 12, "due a: per 3 pay;": 16, "due a: per 3 pay 4 upto 5 above 6;": 26,
		"due a: per 3 pay 4 above 5 above 6;": 27, "due a: per 3 pay 4 above;": 24, "due a: per 3 pay 4 upto;": 23, "due a: flat 3 above 4;": 14, "due a: pay 3 per 4;": 7, "due a: flat 3; due": 18, "due a: flat 3:": 13,
		"rebate a: 1 in 2;": 8, "rebate a 1 2;": 11, "rebate a 1 in;": 13, "rebate a 1 in 2": 15, "rebate a 1 in 2,": 15, "rebate a in 2;": 9, "rebate a of b 1 of 2;": 16,
		"least a;": 7, "least a 1, 2;": 9, "least 1;": 6, "most a": 6, "most a of b": 11, "most a up 3;": 7, "most": 4, "least a 3;\nmost b;\n": 17,
		"round a 3;": 8, "round a near;": 12, "round a up down 3;": 11, "round a 3 up;": 8, "round a of up 3;": 11, "round a upto 3;": 8, "round a nearer 3;": 8, "round a of b c 3;": 13,
		"due a: flat 3;  \n# end": -1, "due a: flat 3  \n# end": 21,
	} {
		x, e, at := tariff.Parse(s)
		if want < 0 {
			equal(t, e, api.OK, s)
			continue
		}
		equal(t, e, api.ErrForm, s)
		equal(t, at, want, s)
		sameTariff(t, x, api.Tariff{}, s)
	}
	for _, s := range reserved() {
		_, e, at := tariff.Parse("most " + s + " 3;")
		equal(t, e, api.ErrForm, s)
		equal(t, at, 5, s)
		_, e, at = tariff.Parse("most a of b, " + s + " 3;")
		equal(t, e, api.ErrForm, s)
		equal(t, at, 13, s)
	}
}

// P7.1: what is a source by the grammar, but not a valid tariff, has the error of Check, with the index 0; more rules than there can be come ahead of rules that are not formed.
func TestErrorsOfParsedTariffs(t *testing.T) {
	for _, s := range []string{
		"due a: per 0 pay 1;", "due a of b, b: flat 1;", "rebate a 2 in 1;", "round a up 0;", "due a: flat 10001;", "due a: per 1 pay 10001;",
		"due a: per 1 pay 1 above 5 upto 5;", "due a: per 1 pay 1 above 65536;", "due a: per 1 pay 1 upto 0;", "due a: per 0 pay 1 above 1 upto 0;", "due a: per 0 pay 1 upto 1;",
		"rebate a 0 in 0;", "rebate a 1 in 1001;", "least a 10001;", "most a 10001;", "round a down 10001;",
		"due a: flat 1, flat 1, flat 1, flat 1, flat 1, flat 1, flat 1;", "most a of b, c, d, e, f, g, h, i, j 1;",
	} {
		for _, s := range []string{s, "most a 1; " + s, s + " most a 1;"} {
			x, e, at := tariff.Parse(s)
			equal(t, e, api.ErrForm, s)
			equal(t, at, 0, s)
			sameTariff(t, x, api.Tariff{}, s)
		}
	}
	fine := strings.Repeat("most a 1;", api.MaxRules)
	equal(t, len(parsed(t, fine).Rules), api.MaxRules)
	for _, s := range []string{fine + "most a 1;", fine + "most a 10001;", strings.Repeat("most a 10001;", api.MaxRules+1), strings.Repeat("most a 1;", api.MaxTariff/9)} {
		x, e, at := tariff.Parse(s)
		equal(t, e, api.ErrLimit, s)
		equal(t, at, 0, s)
		sameTariff(t, x, api.Tariff{}, s)
	}
	_, e, at := tariff.Parse(fine + "most a 1")
	equal(t, e, api.ErrForm)
	equal(t, at, len(fine)+8)
}

// P7.1: a source can have api.MaxTariff bytes; one more comes ahead of all other errors.
func TestLengthOfSources(t *testing.T) {
	blank := strings.Repeat(" ", api.MaxTariff)
	sameTariff(t, parsed(t, blank), api.Tariff{})
	sameTariff(t, parsed(t, blank[:api.MaxTariff-9]+"most a 1;"), rules(most("a", 1)))
	sameTariff(t, parsed(t, "#"+blank[1:]), api.Tariff{})
	for _, s := range []string{blank + " ", "=" + blank, "#" + blank, blank + "=", strings.Repeat("most a 10001;", 500), strings.Repeat("\xff", 1<<16)} {
		x, e, at := tariff.Parse(s)
		equal(t, e, api.ErrLimit)
		equal(t, at, 0)
		sameTariff(t, x, api.Tariff{})
	}
}

// P7.1: Print says each thing as the grammar has it.
func TestPrintRules(t *testing.T) {
	for want, r := range map[string]api.Rule{
		"due a: flat 0;\n":                                   due("a", flat(0)),
		"due a of b, c: flat 1, per 2 pay 3;\n":              of(due("a", flat(1), per(2, 3, 0, api.MaxMass)), "b", "c"),
		"due a: per 2 pay 0 above 1;\n":                      due("a", per(2, 0, 1, api.MaxMass)),
		"due a: per 2 pay 0 upto 65535;\n":                   due("a", per(2, 0, 0, api.MaxMass-1)),
		"due a: per 65536 pay 10000 above 7 upto 8;\n":       due("a", per(api.MaxMass, api.MaxPay, 7, 8)),
		"rebate a of b 0 in 1000;\n":                         of(rebate("a", 0, 1000), "b"),
		"least a 10000;\n":                                   least("a", 10000),
		"most a of d, c, b 0;\n":                             of(most("a", 0), "d", "c", "b"),
		"round a up 1;\n":                                    round("a", api.WayUp, 1),
		"round a of b down 2;\n":                             of(round("a", api.WayDown, 2), "b"),
		"round abcdefghijklmnopqrstuvwx near 10000;\n":       round("abcdefghijklmnopqrstuvwx", api.WayNear, 10000),
		"due a: flat 6, flat 5, flat 4, flat 3, per 1 pay 2": {},
	} {
		if r.Kind == 0 {
			want, r = want+", flat 1;\n", due("a", flat(6), flat(5), flat(4), flat(3), per(1, 2, 0, api.MaxMass), flat(1))
		}
		equal(t, printed(t, rules(r)), want)
		equal(t, printed(t, rules(r, most("b", 1), r)), want+"most b 1;\n"+want)
	}
	text := printed(t, full())
	equal(t, text, textByWords(full()))
	equal(t, len(text) > api.MaxTariff, true) // so that it cannot be read again: Print has no limit
	forTariffs(500, 9, func(d *dice, x api.Tariff) { equal(t, printed(t, x), textByWords(x)) })
}

// word is a token of the language by the words of the chapter: where it begins, and a letter for what the grammar makes of it.
type word struct {
	at     int
	letter byte
}

// letters are those of the words that are reserved, and of the marks; names have n, numbers 0, and the three ways of rounding W.
func letterOf(text string) byte {
	letters := map[string]byte{"due": 'D', "of": 'O', "flat": 'F', "per": 'P', "pay": 'Y', "above": 'A', "upto": 'U', "rebate": 'R', "in": 'I', "least": 'L', "most": 'M', "round": 'T', "up": 'W', "down": 'W', "near": 'W', ":": ':', ";": ';', ",": ','}
	if b := letters[text]; b != 0 {
		return b
	}
	if text[0] >= 'a' {
		return 'n'
	}
	return '0'
}

var (
	gapForm    = regexp.MustCompile(`^(?s:[ \t\n]|#[^\n]*)`)
	wordForm   = regexp.MustCompile(`^[a-z][a-z0-9]*`)
	numberForm = regexp.MustCompile(`^(0|[1-9][0-9]*)`)
	behindForm = regexp.MustCompile(`^[0-9a-z]`)
	sourceForm = regexp.MustCompile(`^(?:(?:Dn(?:On(?:,n)*)?:(?:F0|P0Y0(?:A0)?(?:U0)?)(?:,(?:F0|P0Y0(?:A0)?(?:U0)?))*;)|(?:Rn(?:On(?:,n)*)?0I0;)|(?:[LM]n(?:On(?:,n)*)?0;)|(?:Tn(?:On(?:,n)*)?W0;))*$`)
)

// wordsByWords are the tokens of a source, or the index of the first error of a token.
func wordsByWords(source string) ([]word, int) {
	var l []word
	for at := 0; at < len(source); {
		rest := source[at:]
		text := wordForm.FindString(rest) + numberForm.FindString(rest)
		switch {
		case gapForm.MatchString(rest):
			at += len(gapForm.FindString(rest))
			continue
		case text == "" && strings.IndexByte(":;,", rest[0]) < 0:
			return nil, at
		case text == "":
			text = rest[:1]
		case wordForm.MatchString(text):
			if len(text) > api.MaxName {
				return nil, at
			}
		default:
			n, _ := new(big.Int).SetString(text, 10)
			if n.Cmp(big.NewInt(api.MaxMass)) > 0 {
				return nil, at
			}
			if behindForm.MatchString(rest[len(text):]) {
				return nil, at + len(text)
			}
		}
		l = append(l, word{at: at, letter: letterOf(text)})
		at += len(text)
	}
	return l, -1
}

// beginsSource reports whether some tokens are the beginning of a source: each beginning can be ended by one of these ends.
func beginsSource(letters string) bool {
	for _, end := range []string{"", "n:F0;", ":F0;", "F0;", "0;", ";", "0Y0;", "Y0;", "n0I0;", "0I0;", "I0;", "n0;", "nW0;", "W0;"} {
		if sourceForm.MatchString(letters + end) {
			return true
		}
	}
	return false
}

// wrongByWords is the index of the first error of a source, but for those of Check, or -1.
func wrongByWords(source string) int {
	l, wrong := wordsByWords(source)
	if wrong >= 0 {
		return wrong
	}
	letters := ""
	for _, x := range l {
		letters += string(x.letter)
		if !beginsSource(letters) {
			return x.at
		}
	}
	if !sourceForm.MatchString(letters) {
		return len(source)
	}
	return -1
}

// gap rolls what separates tokens; it is not empty if it has to be there.
func (d *dice) gap(needed bool) string {
	list := []string{"", "", " ", "\t", "\n", "  ", "# due a: flat 1;\n", "#\n", " #=\xff Aé\n\t"}
	if needed {
		list = list[2:]
	}
	return list[d.between(0, len(list)-1)]
}

// spaced joins tokens with rolled gaps between them.
func (d *dice) spaced(tokens []string) string {
	isMark := func(s string) bool { return s == ":" || s == ";" || s == "," }
	s := d.gap(false)
	for i, x := range tokens {
		needed := i+1 < len(tokens) && !isMark(x) && !isMark(tokens[i+1])
		s += x + d.gap(needed)
	}
	if d.one(4) {
		s += "# to the end"
	}
	return s
}

// tokensOfText are those of a text that Print made, where each mark ends a token.
func tokensOfText(text string) []string {
	return strings.Fields(regexp.MustCompile(`[:;,]`).ReplaceAllString(text, " $0"))
}

// spoil rolls something that is done to tokens.
func (d *dice) spoil(tokens []string) []string {
	other := []string{"due", "of", "flat", "per", "pay", "above", "upto", "rebate", "in", "least", "most", "round", "up", "down", "near", ":", ";", ",", "7", "0", "wharf", "b", "a=", "70000", "07", "due3", strings.Repeat("z", 25)}
	x := other[d.between(0, len(other)-1)]
	if len(tokens) == 0 {
		return []string{x}
	}
	i := d.between(0, len(tokens)-1)
	switch d.between(1, 6) {
	case 1:
		return slices.Delete(tokens, i, i+1)
	case 2:
		return slices.Insert(tokens, i, x)
	case 3:
		tokens[i] = x
		return tokens
	case 4:
		return slices.Insert(tokens, i, tokens[d.between(0, len(tokens)-1)])
	case 5:
		return tokens[:i]
	}
	for i, x := range tokens {
		if numberForm.MatchString(x) && d.one(2) {
			tokens[i] = []string{"0", "1", "1001", "10001", "65536"}[d.between(0, 4)]
		}
	}
	return tokens
}

// P7.1: the first error of sources that are nearly right is where the words of the chapter have it.
func TestFirstErrors(t *testing.T) {
	met := map[string]int{}
	forTariffs(6000, 3, func(d *dice, x api.Tariff) {
		tokens := tokensOfText(textByWords(x))
		for range d.between(1, 2) {
			tokens = d.spoil(tokens)
		}
		s := d.spaced(tokens)
		got, e, at := tariff.Parse(s)
		want := wrongByWords(s)
		switch {
		case want >= 0:
			equal(t, e, api.ErrForm, s)
			equal(t, at, want, s)
			met["wrong"]++
			if want == len(s) {
				met["at the end"]++
			}
		case e == api.ErrForm:
			equal(t, at, 0, s)
			met["not formed"]++
		default:
			good(t, e, s)
			sameTariff(t, parsed(t, printed(t, got)), got, s)
			met["right"]++
		}
	})
	enough(t, met, 50, "wrong", "at the end", "not formed", "right")
}

// P7.1: sources of any bytes.
func TestAnyBytes(t *testing.T) {
	d := &dice{state: 5}
	parts := []string{"due", "a", "0", "9", "65536", " ", "\n", "#", ":", ";", ",", "of", "=", "most", "Z", "\xff", "\x00"}
	for range 5000 {
		s := ""
		for range d.between(0, 7) {
			s += parts[d.between(0, len(parts)-1)]
		}
		_, e, at := tariff.Parse(s)
		want := wrongByWords(s)
		equal(t, e == api.ErrForm, want >= 0, s)
		equal(t, at, max(want, 0), s)
	}
}

// P7.1: each byte alone, ahead of a token, within a word, and behind a number.
func TestEachByte(t *testing.T) {
	for b := range 256 {
		for _, s := range []string{string([]byte{byte(b)}), string([]byte{byte(b)}) + "most a 1;", "most a" + string([]byte{byte(b)}) + " 1;", "most a 1" + string([]byte{byte(b)}) + ";", "most a 1;#" + string([]byte{byte(b)}) + "="} {
			_, e, at := tariff.Parse(s)
			want := wrongByWords(s)
			equal(t, e == api.ErrForm, want >= 0, s)
			equal(t, at, max(want, 0), s)
		}
	}
}
