package reach

// once are the elements of a row, each where it stands first.
func once[T comparable](row []T) []T {
	var out []T
	met := map[T]struct{}{}
	for _, one := range row {
		if _, is := met[one]; !is {
			met[one] = struct{}{}
			out = append(out, one)
		}
	}
	return out
}

// deepFirst are these names and all that they lead to, each once: behind what it leads to itself, but for what is on the way to it.
func deepFirst(from []string, leads func(string) []string) []string {
	var out []string
	met := map[string]struct{}{} // told, or on the way
	var visit func(string)
	visit = func(name string) {
		if _, is := met[name]; is {
			return
		}
		met[name] = struct{}{}
		for _, next := range leads(name) {
			visit(next)
		}
		out = append(out, name)
	}
	for _, name := range from {
		visit(name)
	}
	return out
}
