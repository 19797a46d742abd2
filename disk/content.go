package disk

import "switchback/api"

// content of a disk: the groups of its whole records, numbered from first on; where these end; whether something torn is behind them.
type content struct {
	first  int
	groups []api.Group
	end    int
	torn   bool
}

// read a disk: its content, or why it is not right.
func read(d api.Disk) (content, api.Errno) {
	if len(d.Data) > api.MaxData {
		return content{}, api.ErrMany
	}
	var c content
	isEnd := d.Synced == 0
	for body, end := range records(d.Data) {
		n, g, right := decode(body)
		if !right || !c.goesOnWith(n) {
			return content{}, api.ErrForm
		}
		c.add(n, g)
		c.end = end
		isEnd = isEnd || d.Synced == end
	}
	if !isEnd {
		return content{}, api.ErrRange
	}
	c.torn = c.end < len(d.Data)
	return c, api.OK
}

// goesOnWith tells whether a group may have the number n, behind those that are there.
func (c *content) goesOnWith(n int) bool {
	return len(c.groups) == 0 || n == c.first+len(c.groups)
}

// add a group.
func (c *content) add(n int, g api.Group) {
	if len(c.groups) == 0 {
		c.first = n
	}
	c.groups = append(c.groups, g)
}
