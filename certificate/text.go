package certificate

import (
	"strconv"
	"strings"

	"roundtable/api"
)

// Format returns the text of a certificate.
func Format(c api.Certificate) (string, api.Errno) {
	if e := Check(c); e != api.OK {
		return "", e
	}
	var text strings.Builder
	switch c.Kind {
	case api.CertificateWalk:
		text.WriteString("walk")
		for i, link := range c.Walk {
			text.WriteString(" " + strconv.Itoa(link.Execution))
			if i > 0 {
				text.WriteString("/" + strconv.Itoa(link.Proc))
			}
		}
	case api.CertificateRainbow:
		text.WriteString("rainbow")
		for _, value := range c.Values {
			text.WriteString(" " + strconv.Itoa(value))
		}
		for _, level := range c.Levels {
			text.WriteString(" |")
			for _, views := range level {
				text.WriteString(" " + list(views))
			}
		}
	case api.CertificateProof:
		text.WriteString("proof")
		for _, clause := range c.Proof {
			text.WriteString(" (" + list(clause) + ")")
		}
	}
	if text.Len() > api.MaxText {
		return "", api.ErrLong
	}
	return text.String(), api.OK
}

// Parse returns the certificate that has a text.
func Parse(src string) (api.Certificate, api.Errno) {
	if len(src) > api.MaxText {
		return api.Certificate{}, api.ErrLong
	}
	parts := strings.Split(src, " ")
	x := &reader{}
	read := map[string]func(part string){"walk": x.link, "rainbow": x.rainbow, "proof": x.clause}[parts[0]]
	if read == nil {
		return api.Certificate{}, api.ErrSyntax
	}
	x.c.Kind = map[string]int{"walk": api.CertificateWalk, "rainbow": api.CertificateRainbow, "proof": api.CertificateProof}[parts[0]]
	for _, part := range parts[1:] {
		read(part)
	}
	// What the reader passes over is missing in the text of the certificate.
	if text, e := Format(x.c); e != api.OK || text != src {
		return api.Certificate{}, api.ErrSyntax
	}
	return x.c, api.OK
}

// list returns the numbers of a list, with commas between.
func list(l []int) string {
	texts := make([]string, len(l))
	for i, x := range l {
		texts[i] = strconv.Itoa(x)
	}
	return strings.Join(texts, ",")
}

// reader reads the parts of texts of certificates as far as it understands them.
type reader struct{ c api.Certificate }

// number returns the number of a text, or one that no certificate has.
func number(s string) int {
	n, err := strconv.Atoi(s)
	if err != nil {
		return api.MaxNumber + 1
	}
	return n
}

func numbers(s string) []int {
	var l []int
	for _, part := range strings.Split(s, ",") {
		l = append(l, number(part))
	}
	return l
}

func (x *reader) link(part string) {
	execution, proc, found := strings.Cut(part, "/")
	link := api.Link{Execution: number(execution), Proc: -1}
	if found {
		link.Proc = number(proc)
	}
	x.c.Walk = append(x.c.Walk, link)
}

func (x *reader) rainbow(part string) {
	last := len(x.c.Levels) - 1
	switch {
	case part == "|":
		x.c.Levels = append(x.c.Levels, nil)
	case last < 0:
		x.c.Values = append(x.c.Values, number(part))
	default:
		x.c.Levels[last] = append(x.c.Levels[last], numbers(part))
	}
}

func (x *reader) clause(part string) {
	inner := strings.TrimSuffix(strings.TrimPrefix(part, "("), ")")
	clause := []int{}
	if inner != "" {
		clause = numbers(inner)
	}
	x.c.Proof = append(x.c.Proof, clause)
}
