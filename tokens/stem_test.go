package tokens_test

import (
	"math/rand"
	"strings"
	"testing"

	"concord/tokens"
)

// holdStem holds Stem against the model, and against what the promise says of every word.
func holdStem(t *testing.T, word string) {
	t.Helper()
	got := tokens.Stem(word)
	if want := modelStem(word); got != want {
		t.Fatalf("Stem(%q) = %q, want %q", word, got, want)
	}
	if len(got) > len(word) || got == "" && word != "" {
		t.Fatalf("Stem(%q) = %q is empty or longer than the word", word, got)
	}
}

// holdForms holds a word of three small letters or more against its possessive and its plural.
func holdForms(t *testing.T, word string) {
	t.Helper()
	stem := tokens.Stem(word)
	if got := tokens.Stem(word + "'s"); got != stem {
		t.Fatalf("Stem(%q) = %q, and %q with 's", word, stem, got)
	}
	if strings.HasSuffix(word, "s") || strings.HasSuffix(word, "ie") || strings.HasSuffix(word, "sse") {
		return
	}
	if got := tokens.Stem(word + "s"); got != stem {
		t.Fatalf("Stem(%q) = %q, and %q with s", word, stem, got)
	}
}

// rowsHold holds Stem against rows of a word and its stem.
func rowsHold(t *testing.T, rows string) {
	t.Helper()
	for _, row := range strings.Split(rows, ";") {
		pair := strings.Fields(row)
		if len(pair) != 2 {
			t.Fatalf("no row: %q", row)
		}
		if got := tokens.Stem(pair[0]); got != pair[1] {
			t.Errorf("Stem(%q) = %q, want %q", pair[0], got, pair[1])
		}
		holdStem(t, pair[0])
	}
}

// P5.4
func TestStemExamples(t *testing.T) {
	rowsHold(t, "caresses caress; ponies poni; cats cat; feed feed; agreed agre; plastered plaster; bled bled; motoring motor; sing sing; conflated conflat; troubled troubl; sized size; hopping hop; falling fall; filing file; happy happi; sky sky; relational relat; rational ration; digitizer digit; hopefulness hope; electrical electr; revival reviv; adoption adopt; effective effect; probate probat; rate rate; cease ceas; controll control; roll roll; is is; dog's dog; Cats Cats")
}

// P5.4: each ending of step 1, at both sides of its condition.
func TestStemStep1(t *testing.T) {
	rowsHold(t, "caresses caress; sses ss; ties ti; ies i; caress caress; sss sss; cats cat; gas ga; bus bu; yes ye; news new")
	rowsHold(t, "feed feed; eed eed; freed freed; agreed agre; need need; kneed kneed; guaranteed guarante")
	rowsHold(t, "plastered plaster; bled bled; red red; shed shed; played plai; yed yed; byed by; ted ted")
	rowsHold(t, "motoring motor; sing sing; ing ing; king king; string string; being be; crying cry; bying by; ying ying")
	// what is done behind ed and ing
	rowsHold(t, "conflated conflat; rating rate; ating at; troubled troubl; abling abl; sized size; izing iz; hopping hop; tanned tan; falling fall; hissing hiss; fizzed fizz; failing fail; filing file; fixing fix; snowing snow; boxed box; baying bai; beating beat; tiling tile; hoeing hoe; adding ad; egging eg; byying by; motored motor; offing of")
	rowsHold(t, "happy happi; sky sky; toy toi; say sai; yyy yyi; byy byi; syzygy syzygi; by's by; cry cry; abby abbi")
}

// P5.4: each ending of step 2, at both sides of its condition.
func TestStemStep2(t *testing.T) {
	rowsHold(t, "relational relat; conditional condit; valenci valenc; hesitanci hesit; digitizer digit; conformabli conform; radicalli radic; differentli differ; vileli vile; analogousli analog; vietnamization vietnam; predication predic; operator oper; feudalism feudal; decisiveness decis; hopefulness hope; callousness callous; formaliti formal; sensitiviti sensit; sensibiliti sensibl")
	rowsHold(t, "rational ration; tional tional; benci benci; canci canci; bizer bizer; cabli cabli; balli balli; gentli gentli; beli beli; mousli mousli; bization bizat; nation nation; gator gator; dalism dalism; liveness live; fulness ful; mousness mous; baliti baliti; diviti diviti; biliti biliti")
}

// P5.4: each ending of step 3, at both sides of its condition.
func TestStemStep3(t *testing.T) {
	rowsHold(t, "triplicate triplic; formative form; formalize formal; electriciti electr; electrical electr; hopeful hope; goodness good")
	rowsHold(t, "dicate dicat; native nativ; balize baliz; viciti viciti; bical bical; ful ful; shful shful; ness ness; lness lness")
}

// P5.4: each ending of step 4, at both sides of its condition. Where a longer ending's condition fails, a shorter one isn't tried: basement, document.
func TestStemStep4(t *testing.T) {
	rowsHold(t, "revival reviv; allowance allow; inference infer; airliner airlin; gyroscopic gyroscop; adjustable adjust; defensible defens; irritant irrit; replacement replac; adjustment adjust; dependent depend; adoption adopt; adhesion adhes; homologou homolog; communism commun; activate activ; angulariti angular; homologous homolog; effective effect; bowdlerize bowdler")
	rowsHold(t, "metal metal; finance financ; fence fenc; water water; magic magic; capable capabl; visible visibl; instant instant; basement basement; document document; garment garment; agent agent; nation nation; mission mission; opinion opinion; million million; caribou carib; tabou tabou; prism prism; purism purism; climate climat; cuviti cuviti; city citi; famous famou; motive motiv; realize realiz")
}

// P5.4: both halves of step 5, at both sides of their conditions.
func TestStemStep5(t *testing.T) {
	rowsHold(t, "probate probat; rate rate; cease ceas; the the; bee bee; tree tree; snowe snow; boxe box; baye bay; boye boy; ease eas; axe ax; type type; byte byte; eye ey; able abl")
	rowsHold(t, "controll control; roll roll; excell excel; fall fall; all all; parallel parallel; idyll idyl; llll llll")
}

// P5.4: several steps one behind the other.
func TestStemOfManySteps(t *testing.T) {
	rowsHold(t, "generalizations gener; oscillators oscil; itemization item; sensational sensat; traditional tradit; references refer; colonizers colon; plotted plot; humbled humbl; meetings meet; running run; cats' cats'; cats's cat; running's run; hopefulness's hope")
}

// P5.4: what isn't done.
func TestStemLeavesAlone(t *testing.T) {
	rows := []struct{ word, want string }{
		{"", ""},
		{"s", "s"},
		{"as", "as"},
		{"es", "es"},
		{"'s", "'s"},
		{"a's", "a"},
		{"as's", "as"},
		{"''s", "'"},
		{"'s's", "'s"},
		{"cats's's", "cats's"},
		{"it's", "it"},
		{"Cats", "Cats"},
		{"catS", "catS"},
		{"Cats's", "Cats"},
		{"cats'S", "cats'S"},
		{"o'clocks", "o'clocks"},
		{"o'clock's", "o'clock"},
		{"cats2", "cats2"},
		{"2cats", "2cats"},
		{"3.14's", "3.14"},
		{"r_running", "r_running"},
		{"caf\xc3\xa9s", "caf\xc3\xa9s"},
		{"caf\xc3\xa9's", "caf\xc3\xa9"},
		{"`running", "`running"},
		{"{running", "{running"},
		{"running\x00", "running\x00"},
		{"the cats", "the cats"},
	}
	for _, x := range rows {
		if got := tokens.Stem(x.word); got != x.want {
			t.Errorf("Stem(%q) = %q, want %q", x.word, got, x.want)
		}
		holdStem(t, x.word)
	}
}

// P5.4: every byte, at each place of a word that would be shortened without it.
func TestStemOfEveryByte(t *testing.T) {
	for a := range 256 {
		x := string([]byte{byte(a)})
		for i := range len("runnings") + 1 {
			word := "runnings"[:i] + x + "runnings"[i:]
			holdStem(t, word)
			holdStem(t, word+"'s")
		}
		for b := range 256 {
			holdStem(t, x+string([]byte{byte(b)}))
			holdStem(t, x+string([]byte{byte(b)})+"s")
			holdStem(t, x+string([]byte{byte(b)})+"'s")
		}
	}
}

// P5.4: all short words of a few letters, y among them; and all of three letters.
func TestStemOfShortWords(t *testing.T) {
	over(strings.Split("abesy", ""), 7, func(word string) {
		holdStem(t, word)
		if len(word) >= 3 {
			holdForms(t, word)
		}
	})
	over(strings.Split(letters, ""), 3, func(word string) {
		holdStem(t, word)
		holdStem(t, word+"'s")
		holdStem(t, word+"ed")
		holdStem(t, word+"ing")
		holdStem(t, word+"e")
		holdStem(t, word+"y")
	})
}

// rests have each measure up to 3, with and without vowels, double and short ends and what keeps them from being such.
const rests = " b a y bb ya by ab ay bl iz at ll yy aba bab bay baw bax bal bas bat biz boil byy ayy abb add all ass azz bill sion tion babab babas babat babal abat adab adaba ababl adabiz babball bababb trababab yayay byby ababay"

// P5.4: every ending of every step, and every two of them, behind rests of all kinds.
func TestStemOfEndings(t *testing.T) {
	endings := allEndings()
	for _, rest := range strings.Split(rests, " ") {
		for _, one := range endings {
			holdStem(t, rest+one)
			if len(rest+one) >= 3 {
				holdForms(t, rest+one)
			}
			for _, two := range endings {
				holdStem(t, rest+one+two)
			}
		}
	}
}

// P5.4
func TestStemOfMadeWords(t *testing.T) {
	dice := rand.New(rand.NewSource(54))
	pieces := append(allEndings(), strings.Split(letters+"aeiouyaeiouyllsstt", "")...)
	for range 60000 {
		word := ""
		for range 1 + dice.Intn(6) {
			word += pieces[dice.Intn(len(pieces))]
		}
		holdStem(t, word)
		holdStem(t, word+"'s")
		if len(word) >= 3 {
			holdForms(t, word)
		}
	}
}

// P5.4: a word may be of any length; of many y every second one is a vowel.
func TestStemOfLongWords(t *testing.T) {
	size := 1 << 20
	for _, x := range []struct{ word, want string }{
		{strings.Repeat("y", size), strings.Repeat("y", size-1) + "i"},
		{strings.Repeat("ba", size) + "ing", strings.Repeat("ba", size)},
		{strings.Repeat("b", size) + "ing", strings.Repeat("b", size) + "ing"},
		{strings.Repeat("ba", size) + "lism's", strings.Repeat("ba", size-1) + "b"},
		{strings.Repeat("'s", size), strings.Repeat("'s", size-1)},
	} {
		if got := tokens.Stem(x.word); got != x.want {
			t.Errorf("a word of %d bytes that ends with %q: %d bytes", len(x.word), x.word[len(x.word)-9:], len(got))
		}
	}
}

func FuzzStem(f *testing.F) {
	for _, word := range strings.Fields("caresses agreed hopping falling syzygy relational electriciti basement adoption controll dog's Cats") {
		f.Add(word)
	}
	f.Fuzz(func(t *testing.T, word string) {
		// The model asks for each y the letter ahead of it anew.
		if len(word) > 500 {
			return
		}
		holdStem(t, word)
	})
}
