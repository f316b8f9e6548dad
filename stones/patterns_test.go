package stones_test

import (
	"math"
	"math/rand/v2"
	"slices"
	"testing"

	"millrind/api"
	"millrind/stones"
)

func samplePattern() api.Pattern {
	return api.Pattern{Eye: 1, Rings: 3, Harps: 2, Wide: 3, Furrows: []api.Furrow{{At: 0, From: 1, Lean: 1, Leans: 1, Steep: 1, Feather: 0}}}
}

// P1.1: the chapter's example, and leans of each sign.
func TestDressExamples(t *testing.T) {
	dress := func(p api.Pattern) api.Face { return must[api.Face](t, "Dress")(stones.Dress(p)) }
	f := dress(samplePattern())
	wantFace(t, "Dress", f, faceOf(1, "......", ".s..s.", "s..s.."))
	if got := must[int](t, "Period")(stones.Period(f)); got != 3 {
		t.Errorf("Period: got %d, want 3", got)
	}
	p := samplePattern()
	p.Furrows = nil
	wantFace(t, "Dress without furrows", dress(p), faceOf(1, "......", "......", "......"))
	// floor(-k / 2) for k = 0, 1, 2 is 0, -1, -1.
	p.Furrows = []api.Furrow{{Lean: -1, Leans: 2, Steep: 1, Feather: 1}}
	wantFace(t, "Dress leaning back", dress(p), faceOf(1, "f.sf.s", "f.sf.s", "sf.sf."))
	p.Furrows = append(p.Furrows, api.Furrow{At: 1, From: 2, Leans: 1, Steep: 2})
	wantFace(t, "Dress with a later furrow", dress(p), faceOf(1, "f.sf.s", "f.sf.s", "sfssfs"))
	one := api.Pattern{Eye: 16, Rings: 4, Harps: 1, Wide: 5, Furrows: []api.Furrow{{At: 4, Lean: 5, Leans: 3, Steep: 2, Feather: 1}}}
	// floor(5k / 3) for k = 3, 2, 1, 0 is 5, 3, 1, 0.
	wantFace(t, "Dress of one harp", dress(one), faceOf(16, "sf..s", "..ssf", "ssf..", "sf..s"))
}

// P1.1: a furrow that was cut first stays, also against one of another harp.
func TestDressKeepsFurrows(t *testing.T) {
	p := api.Pattern{Eye: 2, Rings: 1, Harps: 2, Wide: 4, Furrows: []api.Furrow{
		{At: 1, Leans: 1, Steep: 1, Feather: 1},
		{At: 3, Leans: 1, Steep: 2, Feather: 1},
	}}
	wantFace(t, "Dress", must[api.Face](t, "Dress")(stones.Dress(p)), faceOf(2, "ssfsssfs"))
	slices.Reverse(p.Furrows)
	wantFace(t, "Dress the other way round", must[api.Face](t, "Dress")(stones.Dress(p)), faceOf(2, "sffssffs"))
}

// P1.1, S21: each number of a pattern at its limits and beyond.
func TestValidPattern(t *testing.T) {
	furrow := func(set func(w *api.Furrow)) func(p *api.Pattern) {
		return func(p *api.Pattern) { set(&p.Furrows[0]) }
	}
	good := map[string]func(p *api.Pattern){
		"as it is":        func(p *api.Pattern) {},
		"greatest eye":    func(p *api.Pattern) { p.Eye = api.MaxEye },
		"most rings":      func(p *api.Pattern) { p.Rings = api.MaxRings },
		"most sectors":    func(p *api.Pattern) { p.Harps = 32 },
		"one harp":        func(p *api.Pattern) { p.Harps = 1 },
		"widest harp":     func(p *api.Pattern) { p.Harps, p.Wide = 1, api.MaxSectors },
		"two sectors":     func(p *api.Pattern) { p.Harps, p.Wide = 1, 2 },
		"two of one":      func(p *api.Pattern) { p.Harps, p.Wide, p.Furrows = 2, 1, nil },
		"most harps":      func(p *api.Pattern) { p.Harps, p.Wide, p.Furrows = api.MaxSectors, 1, nil },
		"most furrows":    func(p *api.Pattern) { p.Furrows = slices.Repeat(p.Furrows, api.MaxFurrows) },
		"last sector":     furrow(func(w *api.Furrow) { w.At = 2 }),
		"last ring":       furrow(func(w *api.Furrow) { w.From = 2 }),
		"first ring":      furrow(func(w *api.Furrow) { w.From = 0 }),
		"greatest lean":   furrow(func(w *api.Furrow) { w.Lean = api.MaxSectors }),
		"least lean":      furrow(func(w *api.Furrow) { w.Lean = -api.MaxSectors }),
		"greatest leans":  furrow(func(w *api.Furrow) { w.Leans = api.MaxSectors }),
		"widest steep":    furrow(func(w *api.Furrow) { w.Steep = 2 }),
		"widest together": furrow(func(w *api.Furrow) { w.Feather = 1 }),
	}
	bad := map[string]func(p *api.Pattern){
		"eye 0":              func(p *api.Pattern) { p.Eye = 0 },
		"eye too great":      func(p *api.Pattern) { p.Eye = api.MaxEye + 1 },
		"no rings":           func(p *api.Pattern) { p.Rings, p.Furrows = 0, nil },
		"too many rings":     func(p *api.Pattern) { p.Rings = api.MaxRings + 1 },
		"no harps":           func(p *api.Pattern) { p.Harps = 0 },
		"no width":           func(p *api.Pattern) { p.Wide, p.Furrows = 0, nil },
		"both negative":      func(p *api.Pattern) { p.Harps, p.Wide, p.Furrows = -2, -3, nil },
		"one sector":         func(p *api.Pattern) { p.Harps, p.Wide, p.Furrows = 1, 1, nil },
		"too many sectors":   func(p *api.Pattern) { p.Harps = 33 },
		"97 harps":           func(p *api.Pattern) { p.Harps, p.Wide, p.Furrows = 97, 1, nil },
		"product wraps":      func(p *api.Pattern) { p.Harps, p.Wide, p.Furrows = 1<<62+1, 4, nil },
		"too many furrows":   func(p *api.Pattern) { p.Furrows = slices.Repeat(p.Furrows, api.MaxFurrows+1) },
		"a later furrow bad": func(p *api.Pattern) { p.Furrows = append(p.Furrows, api.Furrow{Leans: 1}) },
		"at negative":        furrow(func(w *api.Furrow) { w.At = -1 }),
		"at beyond":          furrow(func(w *api.Furrow) { w.At = 3 }),
		"from negative":      furrow(func(w *api.Furrow) { w.From = -1 }),
		"from beyond":        furrow(func(w *api.Furrow) { w.From = 3 }),
		"lean too great":     furrow(func(w *api.Furrow) { w.Lean = api.MaxSectors + 1 }),
		"lean too small":     furrow(func(w *api.Furrow) { w.Lean = -api.MaxSectors - 1 }),
		"leans 0":            furrow(func(w *api.Furrow) { w.Leans = 0 }),
		"leans negative":     furrow(func(w *api.Furrow) { w.Leans = -1 }),
		"leans too great":    furrow(func(w *api.Furrow) { w.Leans = api.MaxSectors + 1 }),
		"no steep":           furrow(func(w *api.Furrow) { w.Steep, w.Feather = 0, 1 }),
		"feather negative":   furrow(func(w *api.Furrow) { w.Steep, w.Feather = 2, -1 }),
		"steep too wide":     furrow(func(w *api.Furrow) { w.Steep = 3 }),
		"together too wide":  furrow(func(w *api.Furrow) { w.Feather = 2 }),
		"sum wraps":          furrow(func(w *api.Furrow) { w.Steep, w.Feather = math.MaxInt, math.MaxInt }),
		"feather alone wide": furrow(func(w *api.Furrow) { w.Feather = math.MaxInt }),
		"nothing":            func(p *api.Pattern) { *p = api.Pattern{} },
	}
	for name, change := range good {
		checkPattern(t, name, change, true)
	}
	for name, change := range bad {
		checkPattern(t, name, change, false)
	}
}

func checkPattern(t *testing.T, name string, change func(p *api.Pattern), valid bool) {
	t.Helper()
	p := samplePattern()
	change(&p)
	if got := stones.ValidPattern(p); got != valid {
		t.Errorf("ValidPattern, %s: got %v", name, got)
	}
	f, e := stones.Dress(p)
	if valid && (e != api.OK || !stones.Valid(f)) {
		t.Errorf("Dress, %s: error %d, valid %v", name, e, stones.Valid(f))
	}
	if !valid && (e != api.ErrPattern || !stones.Same(f, api.Face{})) {
		t.Errorf("Dress, %s: error %d and %v", name, e, f)
	}
}

func randomPattern(r *rand.Rand) api.Pattern {
	p := api.Pattern{Eye: 1 + r.IntN(api.MaxEye), Rings: 1 + r.IntN(api.MaxRings), Wide: 2 + r.IntN(14)}
	p.Harps = 1 + r.IntN(api.MaxSectors/p.Wide)
	for range r.IntN(5) {
		w := api.Furrow{At: r.IntN(p.Wide), From: r.IntN(p.Rings), Leans: 1 + r.IntN(6)}
		w.Steep = 1 + r.IntN(p.Wide-1)
		w.Feather = r.IntN(p.Wide - w.Steep)
		w.Lean = r.IntN(41) - 20
		p.Furrows = append(p.Furrows, w)
	}
	return p
}

// dressed reckons a cell of a dressed face backwards: the first furrow that covers it gives it its kind.
func dressed(p api.Pattern, ring, sector int) int {
	k := p.Rings - 1 - ring
	for _, w := range p.Furrows {
		begin := w.At + int(math.Floor(float64(k*w.Lean)/float64(w.Leans)))
		if off := ((sector-begin)%p.Wide + p.Wide) % p.Wide; ring >= w.From && off < w.Steep+w.Feather {
			if off < w.Steep {
				return api.Steep
			}
			return api.Feather
		}
	}
	return api.Land
}

// P1.9: dressed faces are valid, repeat with each harp, and drain where no furrow leans more than it is wide.
func TestDressedFaces(t *testing.T) {
	r := rand.New(rand.NewPCG(3, 4))
	drained := 0
	for range 400 {
		p := randomPattern(r)
		f := must[api.Face](t, "Dress")(stones.Dress(p))
		if !stones.Valid(f) || f.Eye != p.Eye || f.Rings != p.Rings || f.Sectors != p.Harps*p.Wide {
			t.Fatalf("Dress of %v: got %v", p, f)
		}
		for i, kind := range f.Kinds {
			if want := dressed(p, i/f.Sectors, i%f.Sectors); kind != want {
				t.Fatalf("Dress of %v, cell %d: got %d, want %d", p, i, kind, want)
			}
		}
		wantFace(t, "turned by Wide", turnOf(t, f, p.Wide), f)
		gentle := !slices.ContainsFunc(p.Furrows, func(w api.Furrow) bool {
			most := w.Leans * (w.Steep + w.Feather - 1)
			return w.Lean > most || w.Lean < -most
		})
		if !gentle {
			continue
		}
		drained++
		if drains := must[bool](t, "Drains")(stones.Drains(f)); !drains {
			t.Errorf("Dress of %v drains", p)
		}
	}
	if drained < 50 {
		t.Errorf("only %d patterns lean gently", drained)
	}
}

// P1.9: a furrow that leans a sector too much may break off.
func TestDressedTooSteeply(t *testing.T) {
	p := api.Pattern{Eye: 1, Rings: 2, Harps: 1, Wide: 6, Furrows: []api.Furrow{{Lean: 2, Leans: 1, Steep: 2}}}
	f := must[api.Face](t, "Dress")(stones.Dress(p))
	wantFace(t, "Dress", f, faceOf(1, "..ss..", "ss...."))
	wantInts(t, "Dead", must[[]int](t, "Dead")(stones.Dead(f)), []int{1})
}
