package tariff

import (
	"strconv"
	"strings"

	"kentledge/api"
)

// Print returns the text of a tariff.
func Print(t api.Tariff) (string, api.Errno) {
	if e := Check(t); e != api.OK {
		return "", e
	}
	var b strings.Builder
	for _, r := range t.Rules {
		b.WriteString(ruleText(r))
		b.WriteString(";\n")
	}
	return b.String(), api.OK
}

func ruleText(r api.Rule) string {
	about := r.Due
	if len(r.Grades) > 0 {
		about += " of " + strings.Join(r.Grades, ", ")
	}
	n := strconv.Itoa(r.N)
	switch r.Kind {
	case api.RuDue:
		return "due " + about + ": " + termsText(r.Terms)
	case api.RuRebate:
		return "rebate " + about + " " + n + " in " + strconv.Itoa(r.D)
	case api.RuLeast:
		return "least " + about + " " + n
	case api.RuMost:
		return "most " + about + " " + n
	}
	return "round " + about + " " + wayText(r.Way) + " " + n
}

func termsText(l []api.Term) string {
	var texts []string
	for _, t := range l {
		texts = append(texts, termText(t))
	}
	return strings.Join(texts, ", ")
}

func termText(t api.Term) string {
	if isFlat(t) {
		return "flat " + strconv.Itoa(t.Pay)
	}
	text := "per " + strconv.Itoa(t.Per) + " pay " + strconv.Itoa(t.Pay)
	if t.Above != 0 {
		text += " above " + strconv.Itoa(t.Above)
	}
	if t.Upto != api.MaxMass {
		text += " upto " + strconv.Itoa(t.Upto)
	}
	return text
}

func wayText(way int) string {
	switch way {
	case api.WayUp:
		return "up"
	case api.WayDown:
		return "down"
	}
	return "near"
}
