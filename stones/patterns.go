package stones

import "millrind/api"

// ValidPattern reports whether a pattern is valid.
func ValidPattern(p api.Pattern) bool {
	if !within(p.Eye, 1, api.MaxEye) || !within(p.Rings, 1, api.MaxRings) {
		return false
	}
	// Each factor is bounded before they are multiplied, so that the product cannot wrap around.
	if !within(p.Harps, 1, api.MaxSectors) || !within(p.Wide, 1, api.MaxSectors) || !within(p.Harps*p.Wide, 2, api.MaxSectors) {
		return false
	}
	if len(p.Furrows) > api.MaxFurrows {
		return false
	}
	for _, w := range p.Furrows {
		if !validFurrow(p, w) {
			return false
		}
	}
	return true
}

// Dress returns the face that is dressed as a pattern says.
func Dress(p api.Pattern) (api.Face, api.Errno) {
	if !ValidPattern(p) {
		return api.Face{}, api.ErrPattern
	}
	f := api.Face{Eye: p.Eye, Rings: p.Rings, Sectors: p.Harps * p.Wide}
	f.Kinds = make([]int, f.Rings*f.Sectors)
	for _, w := range p.Furrows {
		for harp := range p.Harps {
			cutFurrow(f, w, harp*p.Wide)
		}
	}
	return f, api.OK
}

func validFurrow(p api.Pattern, w api.Furrow) bool {
	if !within(w.At, 0, p.Wide-1) || !within(w.From, 0, p.Rings-1) {
		return false
	}
	if !within(w.Lean, -api.MaxSectors, api.MaxSectors) || !within(w.Leans, 1, api.MaxSectors) {
		return false
	}
	// Steep + Feather < Wide, in a form that cannot wrap around.
	return w.Steep >= 1 && within(w.Feather, 0, p.Wide-1-w.Steep)
}

// cutFurrow cuts a furrow into a face, in the harp that begins at a sector.
func cutFurrow(f api.Face, w api.Furrow, start int) {
	for ring := w.From; ring < f.Rings; ring++ {
		inward := f.Rings - 1 - ring
		begin := start + w.At + floorDiv(inward*w.Lean, w.Leans)
		for i := range w.Steep + w.Feather {
			at := indexOf(f, api.Cell{Ring: ring, Sector: round(begin+i, f.Sectors)})
			if isFurrow(f.Kinds[at]) {
				continue
			}
			f.Kinds[at] = api.Steep
			if i >= w.Steep {
				f.Kinds[at] = api.Feather
			}
		}
	}
}

// floorDiv returns the greatest integer that is not greater than a / b, for b > 0.
func floorDiv(a, b int) int {
	q := a / b
	if a%b < 0 {
		q--
	}
	return q
}
