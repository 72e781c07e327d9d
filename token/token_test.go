package token

import (
	"slices"
	"strconv"
	"strings"
	"testing"

	"signalbox/api"
)

// short tells tokens in short: n a name, # a number, w a word, s a sign, e the end, each with its place.
func short(l []api.Token) string {
	var out []string
	for _, x := range l {
		text := x.Text
		if x.Kind == api.KNum {
			text = strconv.Itoa(x.Num)
		}
		out = append(out, string(" n#wse"[x.Kind])+strconv.Itoa(x.At)+text)
	}
	return strings.Join(out, " ")
}

func all(t *testing.T, src, want string) {
	t.Helper()
	l, f := All([]byte(src))
	if f != (api.Fault{}) || short(l) != want {
		t.Errorf("%q: %s, %v; want %s", src, short(l), f, want)
	}
	for _, x := range l {
		if x.Kind == api.KNum && x.Text != "" || x.Kind != api.KNum && x.Num != 0 || x.Kind == api.KEnd && x.Text != "" {
			t.Errorf("%q: %v has more than it should", src, x)
		}
	}
}

func fault(t *testing.T, src string, at int, c api.Code) {
	t.Helper()
	if l, f := All([]byte(src)); l != nil || f != (api.Fault{Code: c, At: at}) {
		t.Errorf("%q: %v, %s; want %d at %d", src, f, short(l), c, at)
	}
}

// P21.1: the document's example, and others.
func TestAll(t *testing.T) {
	all(t, "", "e0")
	all(t, "a:=1", "n0a s1:= #31 e4")
	all(t, " \t\n\r x \n", "n5x e8")
	all(t, "begin end.", "w0begin w6end s9. e10")
	all(t, "beginend begin1 dob", "n0beginend n9begin1 n16dob e19")
	all(t, "z9 a0z", "n0z9 n3a0z e6")
	all(t, "a1b2 1a2", "n0a1b2 #51 n6a2 e8")
	all(t, "abcdefghijkl", "n0abcdefghijkl e12")
	all(t, "resource semaphore procedure", "w0resource w9semaphore w19procedure e28")
}

// P21.1: P and V are words, whatever stands behind.
func TestPAndV(t *testing.T) {
	all(t, "P V", "w0P w2V e3")
	all(t, "Pab VPV(P1", "w0P n1ab w4V w5P w6V s7( w8P #91 e10")
	all(t, "aP1", "n0a w1P #21 e3")
}

// P21.1: the longest sign is read.
func TestSigns(t *testing.T) {
	all(t, ":= <> <= >= // ; , ( ) [ ] + - * / % = < > .", "s0:= s3<> s6<= s9>= s12// s15; s17, s19( s21) s23[ s25] s27+ s29- s31* s33/ s35% s37= s39< s41> s43. e44")
	all(t, "<<=>>==///<>-", "s0< s1<= s3> s4>= s6= s7// s9/ s10<> s12- e13")
	all(t, "..--++", "s0. s1. s2- s3- s4+ s5+ e6")
	fault(t, "a : b", 2, api.EByte)
	fault(t, "a:", 1, api.EByte)
	fault(t, ": =", 0, api.EByte)
}

// P21.1: numbers, by their value.
func TestNumbers(t *testing.T) {
	all(t, "0 00 007", "#00 #20 #57 e8")
	all(t, "9223372036854775807", "#09223372036854775807 e19")
	all(t, strings.Repeat("0", 100)+"12", "#012 e102")
	fault(t, "1 9223372036854775808", 2, api.ENum)
	fault(t, "99999999999999999999999999", 0, api.ENum)
	fault(t, strings.Repeat("9", 4096), 0, api.ENum)
}

// P21.1: names that are too long; words are no names.
func TestNames(t *testing.T) {
	fault(t, "a abcdefghijklm", 2, api.ELong)
	fault(t, "a12345678901234567890 :", 0, api.ELong)
	all(t, "a23456789012 b", "n0a23456789012 n13b e14")
}

// P21.1: remarks.
func TestRemarks(t *testing.T) {
	all(t, "{}a{ { \xff\xc3 é P }b", "n2a n16b e17")
	all(t, "a{1}1", "n0a #41 e5")
	fault(t, "a { b", 2, api.EByte)
	fault(t, "{a} {", 4, api.EByte)
	fault(t, "}", 0, api.EByte)
	fault(t, "{ { } }", 6, api.EByte)
}

// P21.1: any other byte.
func TestOtherBytes(t *testing.T) {
	for b := range 256 {
		c := byte(b)
		if strings.IndexByte(" \t\n\r{PV;,()[]+-*/%=<>.abcdefghijklmnopqrstuvwxyz0123456789", c) >= 0 {
			continue
		}
		fault(t, "ab "+string([]byte{c})+" :", 3, api.EByte)
	}
	fault(t, "ab\u00e9", 2, api.EByte)
	fault(t, "a\ufffdb", 1, api.EByte)
	fault(t, "a\xe2}", 1, api.EByte)
	fault(t, "\x00", 0, api.EByte)
}

// P21.1: the first thing that is wrong is told; too many bytes go ahead of all.
func TestFirstFault(t *testing.T) {
	fault(t, "a ? abcdefghijklmn", 2, api.EByte)
	fault(t, "abcdefghijklmn ?", 0, api.ELong)
	fault(t, "99999999999999999999 ?", 0, api.ENum)
	fault(t, "? "+strings.Repeat(" ", 4095), 4096, api.EMany)
	fault(t, strings.Repeat("a ", 4000), 4096, api.EMany)
	all(t, strings.Repeat(" ", 4096), "e4096")
	l, f := All([]byte(strings.Repeat(";", 4096)))
	if len(l) != 4097 || f != (api.Fault{}) {
		t.Error(len(l), f)
	}
}

// P21.1: what is a word.
func TestWord(t *testing.T) {
	l := strings.Fields("program resource semaphore shared var procedure claims begin end if then else fi while do od cobegin coend region when request release write read skip true false and or not P V")
	if len(l) != 32 {
		t.Fatal(len(l))
	}
	for _, s := range l {
		if !Word(s) {
			t.Errorf("%s is none", s)
		}
		all(t, s, "w0"+s+" e"+strconv.Itoa(len(s)))
	}
	for _, s := range []string{"", " ", "a", "p", "v", "Begin", "begin ", "begin end", "PV", "nots", "integer", ":="} {
		if Word(s) {
			t.Errorf("%q is one", s)
		}
	}
}

// P21.2: blanks and remarks between tokens turn nothing but places.
func TestBlanksTurnPlacesAlone(t *testing.T) {
	parts := []string{"a", ":=", "12", "<=", "begin", "P", "(", "x9", ")", ".", "/", "/"}
	for _, between := range []string{" ", "{}", " {a:=} ", "\r\n\t"} {
		plain, _ := All([]byte(strings.Join(parts, " ")))
		other, f := All([]byte(between + strings.Join(parts, between) + between))
		if f != (api.Fault{}) || len(other) != len(plain) {
			t.Fatal(f, short(other))
		}
		for i := range plain {
			plain[i].At, other[i].At = 0, 0
		}
		if !slices.Equal(plain, other) {
			t.Error(short(other))
		}
	}
}

// P21.1 (rule 3): the source is left alone, and not kept.
func TestMemory(t *testing.T) {
	src := []byte("ab := 1")
	l, _ := All(src)
	for i := range src {
		src[i] = '?'
	}
	if short(l) != "n0ab s3:= #61 e7" {
		t.Error(short(l))
	}
}
