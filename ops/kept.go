package ops

// most are how many operators there may be, and highest is their highest priority.
const (
	most    = 256
	highest = 1200
)

// key is what an operator is found by: of one name there may be one of each sort.
type key struct {
	name string
	sort int
}

// rival is what there may not be beside an operator; of a prefix one nothing that there ever is.
func (k key) rival() key { return key{k.name, rivals[k.sort]} }

// fixed says whether a name's operators can't be turned.
func fixed(name string) bool {
	switch name {
	case ",", "|", "[]", "{}":
		return true
	}
	return false
}

func (t *Table) has(k key) bool {
	_, ok := t.find(k)
	return ok
}

// find is no operator, if there is no table.
func (t *Table) find(k key) (Def, bool) {
	if t == nil {
		return Def{}, false
	}
	d, ok := t.defs[k]
	return d, ok
}

func (t *Table) put(d Def) {
	if t.defs == nil {
		t.defs = map[key]Def{}
	}
	t.defs[key{d.Name, shapes[d.Type].sort}] = d
}

// sides is an operator's priority, and the most that what stands on its sides may have; of a side on which nothing stands it is a number that nobody asks for.
func (t *Table) sides(k key) (pri, left, right int) {
	d, ok := t.find(k)
	if !ok {
		return 0, 0, 0
	}
	s := shapes[d.Type]
	return d.Pri, d.Pri - s.left, d.Pri - s.right
}
