package resolve

import (
	"marline/api"
)

// entryName is that of the function with which a program begins.
const entryName = "main"

// table is all shared names, by their first items, and which of these rows is whose.
type table struct {
	rows []shared
	at   map[string]int
}

// gather is the table of the names of modules.
func gather(l []api.Module) table {
	t := table{at: map[string]int{}}
	for i := range items(l) {
		t.put(i)
	}
	return t
}

// put gives an item to its name.
func (t *table) put(i item) {
	at, is := t.at[i.name]
	if !is {
		at = len(t.rows)
		t.at[i.name] = at
		t.rows = append(t.rows, shared{name: i.name})
	}
	t.rows[at].items = append(t.rows[at].items, i)
}

// wrong is the first error in the order of the promise, whichever name has it.
func (t table) wrong() api.Errno {
	e := t.entry()
	for _, s := range t.rows {
		e = s.wrong(e)
	}
	return e
}

// entry: can a program begin?
func (t table) entry() api.Errno {
	at, is := t.at[entryName]
	if !is || t.rows[at].kind() != (kind{function: true}) || !t.rows[at].has(item.defines) {
		return api.ErrEntry
	}
	return api.OK
}
