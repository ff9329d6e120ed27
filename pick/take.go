package pick

import (
	"slices"

	"marline/api"
	"marline/own"
)

// place is where a module stands: in which file, and which of its modules it is.
type place struct {
	file, mod int
}

// picked is what is taken of files: from which places, and the row of these modules.
type picked struct {
	files []api.File
	taken map[place]struct{}
	row   []api.Module
}

// begun is what is taken to begin with: all objects.
func begun(l []api.File) picked {
	p := picked{files: l, taken: map[place]struct{}{}}
	for at, f := range l {
		if !f.Archive {
			p.take(place{file: at})
		}
	}
	return p
}

// take takes the module that stands there.
func (p *picked) take(at place) {
	p.taken[at] = struct{}{}
	p.row = append(p.row, own.Module(p.files[at.file].Mods[at.mod]))
}

// search takes modules till none is left that is wanted.
func (p *picked) search() {
again:
	for wanted := p.wanted(); len(wanted) > 0; wanted = p.wanted() {
		for file, f := range p.files {
			for mod, m := range f.Mods {
				at := place{file, mod}
				if _, is := p.taken[at]; !is && definesOne(m, wanted) {
					p.take(at)
					continue again // a file ahead may define what this module wants
				}
			}
		}
		return
	}
}

// wanted are the names that what is taken wants, and doesn't define.
func (p *picked) wanted() map[string]struct{} {
	out := map[string]struct{}{}
	for _, m := range p.row {
		for _, name := range Wants(m) {
			out[name] = struct{}{}
		}
	}
	for _, m := range p.row {
		for _, name := range Defines(m) {
			delete(out, name)
		}
	}
	return out
}

// definesOne: does a module define one of these names?
func definesOne(m api.Module, wanted map[string]struct{}) bool {
	return slices.ContainsFunc(Defines(m), func(name string) bool {
		_, is := wanted[name]
		return is
	})
}
