package proto

// content is what a frame tells: all fields that a message or a reply may have.
type content struct {
	kind               int
	tenant, name, n, m value
	data               value
}

// value is a field: a number; or bytes, and how many of them there are as the number.
type value struct {
	number int
	bytes  []byte
}

func numberValue(n int) value {
	return value{number: n}
}

func listValue(b []byte) value {
	return value{number: len(b), bytes: b}
}

func tenantOf(c *content) *value { return &c.tenant }
func nameOf(c *content) *value   { return &c.name }
func nOf(c *content) *value      { return &c.n }
func mOf(c *content) *value      { return &c.m }
func dataOf(c *content) *value   { return &c.data }

// isEmpty tells whether no field has anything. Of bytes the number says it, too.
func (c content) isEmpty() bool {
	return c.tenant.number == 0 && c.name.number == 0 && c.n.number == 0 && c.m.number == 0 && c.data.number == 0
}

// copyOf is bytes that share no memory with those that it is made of, and no list if there are none.
func copyOf(b []byte) []byte {
	return append([]byte(nil), b...)
}
